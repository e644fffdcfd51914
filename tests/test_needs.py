"""Promises 20, 21 and 22: verdicts and gates."""

import random
import unittest
from itertools import permutations

from learnways.courses import Course
from learnways.errors import NoItem, NoSet, TooMany
from learnways.needs import gates, is_gate, is_verdict, verdict
from learnways.orders import is_order, ready, way_to
from tests.certificates import (
    Checked, closed_set, is_gate_by_words, is_verdict_by_words, strange_values, variants,
)
from tests.models import (
    SHORT, all_sets, courses, greatest_by_words, layered, odd_values, random_ways, states_by_words,
)


def outside(n, gate):
    return [item for item in range(n) if item not in gate]


def some_gate(rng, n, most=4):
    return tuple(sorted(rng.sample(range(n), rng.randint(0, min(n - 1, most)))))


class Verdicts(Checked):
    def check(self, course, states, gate, item):
        shut = is_gate_by_words(states, gate, item)
        found = self.same_again(verdict, course, gate, item)
        self.assertIs(self.same_again(is_gate, course, gate, item), shut)
        if shut:
            self.assertEqual(found, ("needed", greatest_by_words(states, gate)))
        else:
            self.assertEqual(found, ("free", way_to(course, gate, item)))
            self.assertEqual(found[1][-1], item)
        self.assertTrue(is_verdict_by_words(course.ways, gate, item, found))
        self.assertIs(is_verdict(course, gate, item, found), True)

    def test_all_gates_and_items(self):
        for course in courses(201, 40, 5) + layered(201, 30, 5):
            states = states_by_words(course.ways)
            for gate in all_sets(len(course)):
                for item in outside(len(course), gate):
                    self.check(course, states, gate, item)

    def test_twelve_items_by_turns(self):
        rng = random.Random(202)
        group = [(course, states_by_words(course.ways)) for course in courses(203, 15, 12, 9) + layered(203, 15, 12, 9)]
        for _ in range(500):
            course, states = rng.choice(group)
            gate = some_gate(rng, len(course))
            self.check(course, states, gate, rng.choice(outside(len(course), gate)))

    def test_examples(self):
        course = Course(SHORT)
        self.assertEqual(verdict(course, (1,), 4), ("free", (0, 2, 3, 4)))
        self.assertEqual(verdict(course, (1, 2), 4), ("needed", (0,)))
        self.assertEqual(verdict(course, (), 0), ("free", (0,)))
        self.assertEqual(verdict(course, (0,), 4), ("needed", ()))
        self.assertIs(is_gate(course, (1,), 4), False)
        self.assertIs(is_gate(course, (1, 2), 4), True)

    def test_item_in_no_state(self):
        course = Course(((), ((),), ((0,),)))
        for gate in ((), (0,), (1,), (0, 1)):
            self.assertEqual(verdict(course, gate, 2), ("needed", () if 1 in gate else (1,)))
            self.assertIs(is_gate(course, gate, 2), True)
        self.assertIs(is_gate(course, (), 0), True)

    def test_refused(self):
        course = Course(SHORT)
        calls = (verdict, is_gate, lambda *passed: is_verdict(*passed, ("free", (0,))))
        for call in calls:
            for value in [*odd_values(course), 0, [0], [0, 1]]:
                for item in (4, 0, None, True, 5):
                    self.assert_raises_only(NoSet, call, course, value, item)
            for value in [*odd_values(course), (), (0,), [0]]:
                self.assert_raises_only(NoItem, call, course, (), value)
                self.assert_raises_only(NoItem, call, course, (1, 2), value)
            for gate in all_sets(5):
                for item in gate:
                    self.assert_raises_only(NoItem, call, course, gate, item)


class VerdictsKnown(Checked):
    def check(self, course, gate, item, value):
        self.assertIs(is_verdict(course, gate, item, value), is_verdict_by_words(course.ways, gate, item, value),
                      (course.ways, gate, item, value))

    def test_all_orders_and_sets(self):
        rng = random.Random(211)
        for course in courses(212, 15, 4) + layered(212, 15, 4):
            n = len(course)
            rows = [row for size in range(n + 1) for row in permutations(range(n), size)]
            for _ in range(8):
                gate = some_gate(rng, n)
                item = rng.choice(outside(n, gate))
                for row in rows:
                    self.check(course, gate, item, ("free", row))
                    self.check(course, gate, item, ("needed", row))

    def test_closed_sets_that_are_no_states(self):
        rng = random.Random(213)
        lesser = 0
        for course in courses(214, 80, 9, 3) + layered(214, 80, 9, 3):
            gate = some_gate(rng, len(course))
            for _ in range(10):
                value = ("needed", closed_set(rng, (course.ways,), gate))
                for item in outside(len(course), gate):
                    self.check(course, gate, item, value)
                    lesser += is_verdict(course, gate, item, value) and value[1] not in course
        self.assertGreater(lesser, 100)

    def test_changed_verdicts(self):
        rng = random.Random(215)
        for course in courses(216, 80, 9, 2) + layered(216, 80, 9):
            gate = some_gate(rng, len(course))
            item = rng.choice(outside(len(course), gate))
            for value in variants(rng, verdict(course, gate, item), course, 40):
                self.check(course, gate, item, value)
            for other in outside(len(course), gate):
                self.check(course, gate, other, verdict(course, gate, item))

    def test_changed_orders(self):
        rng = random.Random(217)
        for course in courses(218, 50, 9, 3) + layered(218, 50, 9, 3):
            gate = some_gate(rng, len(course), 2)
            item = rng.choice(outside(len(course), gate))
            found = verdict(course, gate, item)
            for place, step in enumerate(found[1]):
                row = list(found[1])
                ahead, behind = row[:place], row[place + 1:]
                for other in (ahead + behind, [*ahead, step, step, *behind], [step, *ahead, *behind], [*row, step],
                              [*ahead, rng.randrange(len(course)), *behind], [*ahead, bool(step), *behind], row[::-1]):
                    for word in ("free", "needed"):
                        self.check(course, gate, item, (word, tuple(other)))
                        self.check(course, gate, item, [word, tuple(other)])
                        self.check(course, gate, item, (word, other))
                        self.check(course, gate, item, (word, tuple(other), ()))

    def test_other_ways_to_the_item(self):
        course = Course(SHORT)
        for order in ((0, 1, 3, 4), (0, 2, 3, 4), (0, 1, 2, 3, 4), (0, 2, 1, 3, 4)):
            self.assertIs(is_verdict(course, (), 4, ("free", order)), True)
            self.assertIs(is_verdict(course, (1,), 4, ("free", order)), 1 not in order)
        self.assertIs(is_verdict(course, (), 4, ("free", (0, 1, 3))), False)
        self.assertIs(is_verdict(course, (), 3, ("free", (0, 1, 3, 4))), False)
        self.assertIs(is_verdict(course, (), 0, ("free", ())), False)
        self.assertIs(is_verdict(course, (), 0, ("free", (False,))), False)
        self.assertIs(is_verdict(course, (0,), 4, ("needed", ())), True)
        self.assertIs(is_verdict(course, (0,), 4, ("needed", (2, 3))), False)
        self.assertIs(is_verdict(course, (1, 2), 4, ("needed", ())), False)
        self.assertIs(is_verdict(course, (0, 1, 2), 4, ("needed", ())), True)

    def test_other_values(self):
        for course in (Course(SHORT), Course.free(1), Course(((), ())), *courses(219, 3, 24)):
            for value in strange_values(course):
                self.check(course, (), 0, value)
                self.assertIs(type(is_verdict(course, (), 0, value)), bool)


class LeastGates(Checked):
    def by_words(self, course, item):
        states = states_by_words(course.ways)
        shut = [gate for gate in all_sets(len(course)) if item not in gate and is_gate_by_words(states, gate, item)]
        return tuple(gate for gate in shut if not any(set(other) < set(gate) for other in shut))

    def test_all_sets(self):
        for course in courses(221, 80, 6) + layered(221, 80, 6):
            for item in range(len(course)):
                self.assertEqual(self.same_again(gates, course, item), self.by_words(course, item))

    def test_eight_items(self):
        for course in courses(222, 8, 8, 7) + layered(222, 8, 8, 7):
            for item in range(len(course)):
                self.assertEqual(gates(course, item), self.by_words(course, item))

    def test_order(self):
        course = Course((((1,), (2,)), ((2,), (3,)), ((),), ((),), ((0, 5),), ((1, 2), (3,))))
        self.assertEqual(gates(course, 0), ((1, 2), (2, 3)))
        self.assertEqual(gates(course, 4), ((0,), (5,), (1, 2), (1, 3), (2, 3)))
        # Shorter gates come first, also where a longer one would be first in the order of Python.
        course = Course((((),), ((),), ((),), ((0, 2), (1, 2))))
        self.assertEqual(gates(course, 3), ((2,), (0, 1)))

    def test_examples(self):
        course = Course(SHORT)
        self.assertEqual(gates(course, 4), ((0,), (3,), (1, 2)))
        self.assertEqual(gates(course, 1), ((0,),))

    def test_edges(self):
        self.assertEqual(gates(Course(SHORT), 0), ())
        self.assertEqual(gates(Course.free(10), 9), ())
        self.assertEqual(gates(Course(((), ((0,),))), 1), ((),))
        self.assertEqual(gates(Course(((), ((0,),))), 0), ((),))
        self.assertEqual(gates(Course(((),)), 0), ((),))
        self.assertEqual(gates(Course.chain(10), 9), tuple((q,) for q in range(9)))

    def test_ten_items_and_no_more(self):
        for course in courses(223, 5, 10, 10) + layered(223, 5, 10, 10):
            for item in range(10):
                for gate in gates(course, item):
                    self.assertIs(is_gate(course, gate, item), True)
                    for left in gate:
                        self.assertIs(is_gate(course, tuple(q for q in gate if q != left), item), False)
        for n in range(11, 25):
            for item in (0, n - 1, n, -1, None, True, "0", ()):
                raised = self.assert_raises_only(TooMany, gates, Course.free(n), item)
                self.assertEqual(raised.limit, 10)

    def test_refused(self):
        for course in (Course(SHORT), Course.free(10)):
            for value in [*odd_values(course), (), (0,), [0]]:
                self.assert_raises_only(NoItem, gates, course, value)


class LargeCourses(Checked):
    def test_verdicts_of_eighteen_items(self):
        rng = random.Random(231)
        for course in courses(232, 40, 18, 12) + layered(232, 40, 18, 12):
            for _ in range(12):
                gate = some_gate(rng, len(course), 5)
                item = rng.choice(outside(len(course), gate))
                word, shown = verdict(course, gate, item)
                self.assertIs(is_gate(course, gate, item), word == "needed")
                self.assertFalse(set(shown) & set(gate))
                if word == "needed":
                    self.assertNotIn(item, shown)
                    for other in outside(len(course), gate):
                        if other not in shown:
                            self.assertFalse(any(set(way) <= set(shown) for way in course[other]))
                else:
                    done = ()
                    for step in shown:
                        self.assertIn(step, ready(course, done))
                        done = tuple(sorted((*done, step)))
                    self.assertEqual(shown[-1], item)

    def test_gates_of_eighteen_items(self):
        rng = random.Random(233)
        for course in courses(234, 30, 18, 12) + layered(234, 30, 18, 12):
            n = len(course)
            states = [self.some_state(rng, course) for _ in range(20)]
            for _ in range(25):
                gate = some_gate(rng, n, 6)
                item = rng.choice(outside(n, gate))
                if not is_gate(course, gate, item):
                    continue
                for state in states:
                    self.assertTrue(item not in state or set(state) & set(gate))
                more = tuple(sorted({*gate, *(q for q in some_gate(rng, n) if q != item)}))
                self.assertIs(is_gate(course, more, item), True)
                other = tuple(q for q in some_gate(rng, n, 8) if q != item)
                if all(q in other or is_gate(course, other, q) for q in gate):
                    self.assertIs(is_gate(course, other, item), True)

    def some_state(self, rng, course):
        order = []
        for _ in range(rng.randint(0, len(course))):
            following = ready(course, tuple(sorted(order)))
            if following:
                order.append(rng.choice(following))
        self.assertTrue(is_order(course, tuple(order)))
        return tuple(sorted(order))

    def test_courses_that_operators_return(self):
        rng = random.Random(235)
        for one in courses(236, 12, 9, 6):
            other = Course(random_ways(rng, len(one)))
            for course in (one & other, one | other):
                states = states_by_words(course.ways)
                for _ in range(10):
                    gate = some_gate(rng, len(course))
                    item = rng.choice(outside(len(course), gate))
                    self.assertIs(is_gate(course, gate, item), is_gate_by_words(states, gate, item))
                    self.assertIs(is_verdict(course, gate, item, verdict(course, gate, item)), True)


if __name__ == "__main__":
    unittest.main()
