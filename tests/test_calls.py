"""Promises 2 and 3: values of any kind are let in by the functions that check them, and nothing is changed."""

import unittest

from learnways.answers import fitting, is_reason, is_tree, reach, reason, sure
from learnways.comparing import compared, is_comparison
from learnways.courses import Course, after, without
from learnways.needs import gates, is_gate, is_verdict, verdict
from learnways.orders import greatest, is_order, is_state, lasts, order_of, plan, ready, state_of, way_to
from learnways.slips import fewest_wrong, is_case_tree
from tests.certificates import WORDS, Checked, shown, strange_values
from tests.models import SHORT, odd_values

CALLS = (
    (after, ((0, 1),)), (without, ((0, 1),)), (greatest, ()), (greatest, ((1,),)), (order_of, ((0, 2),)),
    (way_to, ((1,), 4)), (ready, ((0,),)), (lasts, ((0, 1),)), (state_of, ((1, 3),)), (plan, (((0,), ()),)),
    (verdict, ((1,), 4)), (verdict, ((1, 2), 4)), (is_gate, ((1, 2), 4)), (gates, (4,)), (fitting, ((4,), (1,))),
    (fitting, ((4,), (1, 2))), (sure, ((4,), (1,))), (reason, ((4,), (1,), 2)), (reach, ((3,), (1,), 4)),
    (fewest_wrong, ((3, 4), (1, 2))),
)

CHECKS = (
    (is_order, ()), (is_state, ()), (is_verdict, ((1,), 4)), (is_reason, ((4,), (), 1)), (is_tree, ((1,), (4,), 3)),
    (is_case_tree, ((3, 4), (1, 2), 0)), (is_case_tree, ((3, 4), (1, 2), 1)), (is_comparison, (Course(SHORT),)),
)


def changeable(course):
    """Values that could be changed by whom they are passed to."""
    for word in WORDS:
        yield [word, [0, 1], [[word, [0]]]]
        yield (word, [0], {0: [1]})
        yield (word, (0,), [("short", [0, 2])])
        yield (word, 4, (1, 2), [[word, 4, [0]]])
        yield {word: [word, [0]]}
    yield [course, [course], {"course": course}]


class Calls(Checked):
    def test_same_call_again(self):
        course = Course(SHORT)
        for call, more in CALLS:
            first = shown((call(course, *more), *more))
            for other, passed in CALLS:
                other(course, *passed)
            self.same_again(call, course, *more)
            self.assertEqual(shown((call(course, *more), *more)), first)
        self.assertEqual(shown(self.same_again(compared, course, Course(SHORT))), shown(compared(course, course)))
        self.assertEqual(course.ways, SHORT)

    def test_any_value(self):
        course = Course(SHORT)
        for check, more in CHECKS:
            for value in (*strange_values(course), *odd_values(course)):
                self.assertIs(type(check(course, *more, value)), bool)

    def test_values_are_not_changed(self):
        course = Course(SHORT)
        for check, more in CHECKS:
            for value in changeable(course):
                before = repr(value)
                self.assertIs(check(course, *more, value), False)
                self.assertEqual(repr(value), before)
                self.assertIs(check(course, *more, value), False)


if __name__ == "__main__":
    unittest.main()
