"""Promises 2 and 3: values of any kind are let in by the functions that check them, and nothing is changed."""

import unittest

from learnways.answers import fitting, is_reason, is_tree, reach, reason, sure
from learnways.comparing import compared, is_comparison
from learnways.counting import (
    best_question, is_question_tree, number_of_orders, number_of_states, order_at, place_of, questions,
)
from learnways.courses import Course, after, without
from learnways.needs import gates, is_gate, is_verdict, verdict
from learnways.orders import greatest, is_order, is_state, lasts, order_of, plan, ready, state_of, way_to
from learnways.slips import fewest_wrong, is_case_tree
from learnways.texts import course_of, text_of
from learnways.timing import is_timetable, timetable
from learnways.tutors import Tutor
from tests.certificates import WORDS, Checked, shown, strange_values
from tests.learners import all_told
from tests.models import SHORT, odd_values

CALLS = (
    (after, ((0, 1),)), (without, ((0, 1),)), (greatest, ()), (greatest, ((1,),)), (order_of, ((0, 2),)),
    (way_to, ((1,), 4)), (ready, ((0,),)), (lasts, ((0, 1),)), (state_of, ((1, 3),)), (plan, (((0,), ()),)),
    (verdict, ((1,), 4)), (verdict, ((1, 2), 4)), (is_gate, ((1, 2), 4)), (gates, (4,)), (fitting, ((4,), (1,))),
    (fitting, ((4,), (1, 2))), (sure, ((4,), (1,))), (reason, ((4,), (1,), 2)), (reach, ((3,), (1,), 4)),
    (fewest_wrong, ((3, 4), (1, 2))), (timetable, ((1, 0, 2, 3, 1000000),)), (number_of_states, ()),
    (number_of_orders, ()), (order_at, (3,)), (place_of, ((0, 2, 3, 4, 1),)), (best_question, ((3,), ())),
    (text_of, (("a", "b", "c", "d", "e"),)),
)

CHECKS = (
    (is_order, ()), (is_state, ()), (is_verdict, ((1,), 4)), (is_reason, ((4,), (), 1)), (is_tree, ((1,), (4,), 3)),
    (is_case_tree, ((3, 4), (1, 2), 0)), (is_case_tree, ((3, 4), (1, 2), 1)), (is_comparison, (Course(SHORT),)),
    (is_timetable, ((1, 2, 3, 4, 5),)), (is_question_tree, ((), ())), (is_question_tree, ((4,), (1,))),
)


def changeable(course):
    """Values that could be changed by whom they are passed to."""
    for word in WORDS:
        yield [word, [0, 1], [[word, [0]]]]
        yield (word, [0], {0: [1]})
        yield (word, (0,), [("short", [0, 2])])
        yield (word, 4, (1, 2), [[word, 4, [0]]])
        yield {word: [word, [0]]}
    yield [course, [course], {"course": course}]


class Calls(Checked):
    def test_same_call_again(self):
        course = Course(SHORT)
        for call, more in CALLS:
            first = shown((call(course, *more), *more))
            for other, passed in CALLS:
                other(course, *passed)
            self.same_again(call, course, *more)
            self.assertEqual(shown((call(course, *more), *more)), first)
        self.assertEqual(shown(self.same_again(compared, course, Course(SHORT))), shown(compared(course, course)))
        self.assertEqual(self.same_again(questions, course), questions(Course(SHORT)))
        self.assertEqual(shown(course_of("a: b\nb: -")), shown(course_of("a: b\nb: -")))
        self.assertEqual(course.ways, SHORT)

    def test_tutors_do_not_change_by_other_calls(self):
        course = Course(SHORT)
        tutor = Tutor(course)
        tutor.answer(4, True)
        tutor.answer(1, False)
        before = all_told(tutor)
        for call, passed in CALLS:
            call(tutor.course, *passed)
        for check, passed in CHECKS:
            for value in (tutor, (tutor,), [tutor], ("open", tutor, tutor), (tutor, tutor), ("ask", tutor, (), ())):
                self.assertIs(check(course, *passed, value), False)
        self.assertEqual(all_told(tutor), before)
        self.assertEqual(all_told(tutor), before)

    def test_any_value(self):
        course = Course(SHORT)
        for check, more in CHECKS:
            for value in (*strange_values(course), *odd_values(course)):
                self.assertIs(type(check(course, *more, value)), bool)

    def test_values_are_not_changed(self):
        course = Course(SHORT)
        for check, more in CHECKS:
            for value in changeable(course):
                before = repr(value)
                self.assertIs(check(course, *more, value), False)
                self.assertEqual(repr(value), before)
                self.assertIs(check(course, *more, value), False)


if __name__ == "__main__":
    unittest.main()
