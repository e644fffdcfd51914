"""Promises 70 and 71: when items are finished, and timetables made and checked."""

import random
from itertools import permutations

from learnways.courses import Course, without
from learnways.errors import NoDurations
from learnways.needs import is_gate
from learnways.orders import greatest, is_order
from learnways.timing import is_timetable, timetable
from tests.certificates import Checked, is_order_value, strange_values, variants
from tests.models import SHORT, courses, has_way_by_words, layered, odd_values, orders_by_words, random_ways

NEVER = 10 ** 9


def times_by_words(ways, durations):
    """The times, lowered from what is too great until nothing changes."""
    times = [NEVER] * len(ways)
    before = None
    while times != before:
        before = list(times)
        for item, entry in enumerate(ways):
            for way in entry:
                times[item] = min(times[item], durations[item] + max([times[q] for q in way], default=0))
    return tuple(None if time >= NEVER else time for time in times)


def is_timetable_by_words(ways, durations, value):
    if type(value) is not tuple or len(value) != 2:
        return False
    times, order = value
    if type(times) is not tuple or len(times) != len(ways):
        return False
    if any(time is not None and type(time) is not int for time in times) or not is_order_value(ways, order):
        return False
    timed = {item for item, time in enumerate(times) if time is not None}

    def by(item, way):
        return durations[item] + max([times[q] for q in way], default=0)

    return set(order) == timed and all(
        any(set(way) <= set(order[:place]) and by(item, way) == times[item] for way in ways[item])
        for place, item in enumerate(order)
    ) and all(
        item in timed and times[item] <= by(item, way)
        for item, entry in enumerate(ways) for way in entry if set(way) <= timed
    )


def some_durations(rng, n):
    most = rng.choice((0, 1, 2, 9, 9, 1000000))
    return tuple(rng.choice((0, most, rng.randint(0, most))) for _ in range(n))


def grown_order(rng, ways):
    """An order of all items that can be learned, grown by chance."""
    order = ()
    while True:
        ready = [q for q in range(len(ways)) if q not in order and has_way_by_words(ways[q], order)]
        if not ready:
            return order
        order = (*order, rng.choice(ready))


def exchanged(rng, row):
    """The row with two entries exchanged."""
    row = list(row)
    if len(row) > 1:
        one, other = rng.sample(range(len(row)), 2)
        row[one], row[other] = row[other], row[one]
    return tuple(row)


class Timetables(Checked):
    def check_timetable(self, course, durations):
        value = self.same_again(timetable, course, durations)
        self.assertIs(type(value), tuple)
        times, order = value
        self.assertEqual(times, times_by_words(course.ways, durations), (course.ways, durations))
        self.assertEqual(tuple(sorted(order)), greatest(course))
        self.assertTrue(is_timetable_by_words(course.ways, durations, value), (course.ways, durations, value))
        self.assertIs(is_timetable(course, durations, value), True)
        return times

    def test_books_of_all_kinds(self):
        rng = random.Random(1)
        for course in [*courses(2, 400, 10), *layered(3, 200, 10)]:
            self.check_timetable(course, some_durations(rng, len(course)))

    def test_long_courses(self):
        rng = random.Random(4)
        for course in [*courses(5, 40, 24, 11), *layered(6, 40, 24, 11)]:
            self.check_timetable(course, some_durations(rng, len(course)))

    def test_examples(self):
        course = Course(SHORT)
        self.assertEqual(timetable(course, (1, 2, 3, 4, 5)), ((1, 3, 4, 7, 12), (0, 1, 2, 3, 4)))
        self.assertEqual(timetable(course, (1, 3, 2, 4, 5))[0], (1, 4, 3, 7, 12))
        self.assertEqual(timetable(course, (0,) * 5)[0], (0,) * 5)
        self.assertEqual(timetable(course, (1000000,) * 5)[0], (1000000, 2000000, 2000000, 3000000, 4000000))
        self.assertEqual(timetable(Course(((),)), (7,)), ((None,), ()))
        self.assertEqual(timetable(Course((((1,),), ((0,),), ((),))), (0, 0, 0)), ((None, None, 0), (2,)))

    def test_the_shortest_way_is_not_the_soonest(self):
        course = Course((((),), ((),), ((),), ((0,), (1, 2)), ((3,),)))
        self.assertEqual(self.check_timetable(course, (9, 2, 3, 1, 0)), (9, 2, 3, 4, 4))
        # Items that need each other have no time by that, however short they are.
        course = Course((((1,), (2,)), ((0,),), ((),)))
        self.assertEqual(self.check_timetable(course, (0, 0, 5)), (5, 5, 5))

    def test_chains(self):
        for n in range(1, 25):
            durations = tuple(range(n))
            times, order = timetable(Course.chain(n), durations)
            self.assertEqual(times, tuple(sum(range(item + 1)) for item in range(n)))
            self.assertEqual(order, tuple(range(n)))
            self.assertEqual(timetable(Course.free(n), durations)[0], durations)

    def test_refused(self):
        course = Course(SHORT)
        good = (1, 2, 3, 4, 5)
        bad = [*odd_values(course), list(good), good[:-1], (*good, 1), dict.fromkeys(range(5), 1), good[:-1] + (None,)]
        for value in (-1, 1000001, 10 ** 11, True, False, None, "1", (), (1,), [1], course):
            bad += [(value, *good[1:]), (*good[:-1], value), (value,) * 5]
        for value in bad:
            self.assert_raises_only(NoDurations, timetable, course, value)
            self.assert_raises_only(NoDurations, is_timetable, course, value, timetable(course, good))
            self.assert_raises_only(NoDurations, is_timetable, course, value, None)
        for value in ((0,) * 5, (1000000,) * 5, (0, 1, 999999, 1000000, 2)):
            self.check_timetable(course, value)


class Known(Checked):
    def check_known(self, course, durations, value):
        found = is_timetable(course, durations, value)
        self.assertIs(found, is_timetable_by_words(course.ways, durations, value), (course.ways, durations, value))
        return found

    def test_changed_timetables(self):
        rng = random.Random(11)
        found = {True: 0, False: 0}
        for course in [*courses(12, 60, 7), *layered(13, 60, 7)]:
            durations = some_durations(rng, len(course))
            for value in variants(rng, timetable(course, durations), course, 25):
                found[self.check_known(course, durations, value)] += 1
        self.assertGreater(min(found.values()), 100)

    def test_times_changed(self):
        rng = random.Random(14)
        for course in [*courses(15, 60, 10), *layered(16, 60, 10)]:
            durations = some_durations(rng, len(course))
            times, order = timetable(course, durations)
            for item, time in enumerate(times):
                for other in (0 if time is None else time + 1, 0 if time is None else time - 1, None):
                    changed = (*times[:item], other, *times[item + 1:])
                    self.assertIs(is_timetable(course, durations, (changed, order)), changed == times)
                    less = tuple(q for q in order if q != item)
                    self.check_known(course, durations, (changed, less))
                    self.check_known(course, durations, (changed, (*less, item)))
                    self.assertIs(is_timetable(course, durations, (times[:item] + times[item + 1:], order)), False)
            for value in ((exchanged(rng, times), order), (times, exchanged(rng, order)), (order, times)):
                self.check_known(course, durations, value)

    def test_all_times_later(self):
        # Only a way that is there makes a time right, not that no way is sooner.
        course = Course((((1,),), ((0,),), ((),)))
        self.assertIs(is_timetable(course, (0, 0, 1), ((None, None, 1), (2,))), True)
        self.assertIs(is_timetable(course, (0, 0, 1), ((3, 3, 1), (2,))), False)
        self.assertIs(is_timetable(course, (0, 0, 1), ((3, 3, 1), (2, 0, 1))), False)
        course = Course((((),), ((0,),)))
        self.assertIs(is_timetable(course, (1, 1), ((1, 2), (0, 1))), True)
        for value in (((1, 3), (0, 1)), ((2, 3), (0, 1)), ((1, None), (0,)), ((None, None), ()), ((1, 2), (0,))):
            self.assertIs(is_timetable(course, (1, 1), value), False)

    def test_orders_of_any_way_of_learning(self):
        rng = random.Random(17)
        found = {True: 0, False: 0}
        for course in layered(18, 150, 8):
            durations = some_durations(rng, len(course))
            times = timetable(course, durations)[0]
            for _ in range(6):
                found[self.check_known(course, durations, (times, grown_order(rng, course.ways)))] += 1
        self.assertGreater(min(found.values()), 40)

    def test_all_orders_of_small_courses(self):
        rng = random.Random(19)
        for course in courses(20, 30, 4):
            durations = some_durations(rng, len(course))
            times = timetable(course, durations)[0]
            for size in range(len(course) + 1):
                for row in permutations(range(len(course)), size):
                    self.check_known(course, durations, (times, row))

    def test_an_order_that_hides_the_sooner_way(self):
        # Item 2 is finished by way of item 1, so item 1 must stand ahead of it.
        course = Course((((),), ((),), ((0,), (1,))))
        self.assertIs(is_timetable(course, (5, 1, 1), ((5, 1, 2), (0, 1, 2))), True)
        self.assertIs(is_timetable(course, (5, 1, 1), ((5, 1, 2), (1, 2, 0))), True)
        self.assertIs(is_order(course, (0, 2, 1)), True)
        self.assertIs(is_timetable(course, (5, 1, 1), ((5, 1, 2), (0, 2, 1))), False)

    def test_any_other_values(self):
        course = Course(SHORT)
        durations = (1, 2, 3, 4, 5)
        times, order = timetable(course, durations)
        for value in strange_values(course):
            for whole in (value, (value, order), (times, value), ((value, *times[1:]), order), (times, order, value)):
                self.assertIs(is_timetable(course, durations, whole), False)
        for whole in ([times, order], (list(times), order), (times, list(order)), (times,), (order, times), ()):
            self.assertIs(is_timetable(course, durations, whole), False)
        # True is no time, though it equals 1.
        self.assertIs(is_timetable(course, durations, ((True, *times[1:]), order)), False)
        self.assertIs(is_timetable(course, durations, (times, (False, *order[1:]))), False)


class ChangedCourses(Checked):
    """Promises 15, 16, 20 and 70 together."""

    def test_times_of_changed_courses(self):
        rng = random.Random(31)
        for course in [*courses(32, 60, 14, 2), *layered(33, 60, 14)]:
            other = [random_ways(rng, len(course))[q] if rng.random() < 0.3 else entry
                     for q, entry in enumerate(course.ways)]
            other = Course(tuple(other))
            durations = some_durations(rng, len(course))
            avoided = tuple(q for q in range(len(course)) if rng.random() < 0.2)
            for changed in (course, other, course & other, course | other, without(course, avoided)):
                times = timetable(changed, durations)[0]
                self.assertEqual(times, times_by_words(changed.ways, durations))
            first, second = timetable(course, durations)[0], timetable(other, durations)[0]
            both, any_way = timetable(course & other, durations)[0], timetable(course | other, durations)[0]
            for one in (first, second):
                for q in range(len(course)):
                    self.assertLessEqual(NEVER if any_way[q] is None else any_way[q], NEVER if one[q] is None else one[q])
                    self.assertGreaterEqual(NEVER if both[q] is None else both[q], NEVER if one[q] is None else one[q])

    def test_gates_and_times(self):
        rng = random.Random(34)
        for course in [*courses(35, 60, 14), *layered(36, 60, 14)]:
            durations = some_durations(rng, len(course))
            gate = tuple(q for q in range(len(course)) if rng.random() < 0.25)
            times = timetable(without(course, gate), durations)[0]
            for item in range(len(course)):
                if item not in gate:
                    self.assertIs(is_gate(course, gate, item), times[item] is None)

    def test_durations_of_one_unit_count_steps(self):
        for course in courses(37, 60, 8):
            times = timetable(course, (1,) * len(course))[0]
            for item in range(len(course)):
                self.assertTrue(times[item] is None or times[item] <= len(course))
        for course in courses(38, 30, 4):
            # No order has an item sooner than at its time, if each item takes one unit.
            times = timetable(course, (1,) * len(course))[0]
            for order in orders_by_words(course.ways):
                for place, item in enumerate(order):
                    self.assertLessEqual(times[item], place + 1)


if __name__ == "__main__":
    import unittest
    unittest.main()
