"""Promises 10, 12, 13, 20, 42 and 70: what holds does not hang on the numbers that items have."""

import random
import unittest

from learnways.answers import fitting, sure
from learnways.courses import Course
from learnways.needs import is_gate
from learnways.orders import greatest, is_order, order_of, ready
from learnways.timing import is_timetable, timetable
from learnways.tutors import Tutor
from tests.models import courses, layered, random_ways


class Names:
    """New numbers for items: item q becomes item new[q]."""

    def __init__(self, new):
        self.new = new

    def set_of(self, items):
        return tuple(sorted(self.row_of(items)))

    def row_of(self, row):
        return tuple(self.new[q] for q in row)

    def by_item(self, entries):
        """The entries, one for each item, at their new places."""
        found = [None] * len(entries)
        for q, entry in enumerate(entries):
            found[self.new[q]] = entry
        return tuple(found)

    def course_of(self, course):
        return Course(self.by_item([tuple(self.set_of(way) for way in entry) for entry in course]))


class Renamed(unittest.TestCase):
    def exchanges(self, seed):
        rng = random.Random(seed)
        for course in [*courses(seed, 60, 14, 2), *layered(seed + 1, 60, 14)]:
            n = len(course)
            new = list(range(n))
            for _ in range(rng.choice((1, 1, 3))):
                one, other = rng.sample(range(n), 2)
                new[one], new[other] = new[other], new[one]
            names = Names(new)
            yield rng, course, names, names.course_of(course)

    def some_set(self, rng, n, without=()):
        share = rng.choice((0.1, 0.3))
        return tuple(q for q in range(n) if rng.random() < share and q not in without)

    def test_greatest_states_and_gates(self):
        for rng, course, names, other in self.exchanges(1):
            for _ in range(4):
                avoided = self.some_set(rng, len(course))
                state = greatest(course, avoided)
                self.assertEqual(greatest(other, names.set_of(avoided)), names.set_of(state))
                self.assertEqual(ready(other, names.set_of(state)), names.set_of(ready(course, state)))
                self.assertIs(is_order(other, names.row_of(order_of(course, state))), True)
                for item in range(len(course)):
                    if item not in avoided:
                        self.assertIs(is_gate(other, names.set_of(avoided), names.new[item]),
                                      is_gate(course, avoided, item))

    def test_sure_items(self):
        fits = 0
        for rng, course, names, other in self.exchanges(11):
            for _ in range(4):
                yes = self.some_set(rng, len(course))
                no = self.some_set(rng, len(course), yes)
                one, second = fitting(course, yes, no), fitting(other, names.set_of(yes), names.set_of(no))
                self.assertEqual(second[0], one[0])
                if one[0] == "fits":
                    fits += 1
                    self.assertEqual(second[1], names.set_of(one[1]))
                    self.assertEqual(sure(other, names.set_of(yes), names.set_of(no)),
                                     tuple(names.set_of(items) for items in sure(course, yes, no)))
        self.assertGreater(fits, 50)

    def test_times(self):
        for rng, course, names, other in self.exchanges(21):
            durations = tuple(rng.choice((0, 1, 2, rng.randint(0, 1000000))) for _ in course)
            times, order = timetable(course, durations)
            renamed = names.by_item(durations)
            self.assertEqual(timetable(other, renamed)[0], names.by_item(times))
            self.assertIs(is_timetable(other, renamed, (names.by_item(times), names.row_of(order))), True)

    def test_second_courses(self):
        for rng, course, names, other in self.exchanges(31):
            second = Course(tuple(
                entry if rng.random() < 0.7 else changed
                for entry, changed in zip(course, random_ways(rng, len(course)))
            ))
            renamed = names.course_of(second)
            self.assertIs(other <= renamed, course <= second)
            self.assertIs(other == renamed, course == second)
            self.assertIs(other > renamed, course > second)
            self.assertEqual((other & renamed).ways, names.course_of(course & second).ways)
            self.assertEqual((other | renamed).ways, names.course_of(course | second).ways)

    def test_tutors(self):
        for rng, course, names, other in self.exchanges(41):
            one, second = Tutor(course), Tutor(other)
            state = greatest(course, self.some_set(rng, len(course)))
            for item in rng.sample(range(len(course)), min(4, len(course))):
                self.assertEqual(one.answer(item, item in state), second.answer(names.new[item], item in state))
            self.assertEqual(names.by_item([one[q] for q in range(len(course))]),
                             tuple(second[q] for q in range(len(course))))


if __name__ == "__main__":
    unittest.main()
