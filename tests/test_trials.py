"""Promises 14, 90, 91 and 92: trials, twins, and tutors that are equal."""

import random
import unittest

from learnways.courses import Course
from learnways.errors import Clash, NoDeed
from learnways.tutors import Tutor
from tests.learners import Learner, Told, all_told
from tests.models import SHORT, courses, layered, odd_values


class Broken(Exception):
    """What a deed may end by."""


class Trials(Told):
    def run_trial(self, rng, outside, learner, depth):
        """A trial with any deeds within it, held against the learner at each step."""
        rows, held = list(learner.rows), learner.held
        learner.held = len(rows)
        ending = rng.choice(("return", "return", "raise", "clash", "stop"))
        value = rng.choice((None, 7, "done", [1], outside))

        def deed(tutor):
            self.assertIs(tutor, outside)
            self.assert_same(tutor, learner)
            if rng.random() < 0.5:
                self.do_undo(tutor, learner)
                self.assertEqual(tutor.deeds, 0)
            for _ in range(rng.randint(0, 5)):
                self.step(rng, rng.choice((tutor, outside)), learner, depth)
                self.assert_same(tutor, learner)
                self.assert_same(outside, learner)
            if ending == "raise":
                raise Broken(value)
            if ending == "stop":
                raise KeyboardInterrupt
            if ending == "clash":
                tutor.answer(0, True)
                tutor.answer(0, False)
            return value

        error = {"raise": Broken, "clash": Clash, "stop": KeyboardInterrupt}.get(ending)
        if error is None:
            self.assertIs(outside.trial(deed), value)
        else:
            with self.assertRaises(error) as caught:
                outside.trial(deed)
            self.assertIs(type(caught.exception), error)
        learner.rows, learner.held = rows, held
        self.assert_same(outside, learner)

    def step(self, rng, tutor, learner, depth):
        kind = rng.random()
        item, knows = rng.randrange(len(learner.course)), rng.random() < 0.6
        if kind < 0.25:
            self.do_undo(tutor, learner)
        elif kind < 0.5 and depth < 3:
            self.run_trial(rng, tutor, learner, depth + 1)
        elif kind < 0.7:
            self.do_sign(tutor, learner, item, knows)
        else:
            self.do_answer(tutor, learner, item, knows)

    def test_trials_within_trials(self):
        rng = random.Random(1)
        for course in [*courses(2, 40, 5), *layered(3, 40, 5)]:
            tutor, learner = Tutor(course), Learner(course)
            for _ in range(rng.randint(0, 3)):
                self.do_answer(tutor, learner, rng.randrange(len(course)), rng.random() < 0.5)
            self.run_trial(rng, tutor, learner, 1)
            for _ in range(3):
                self.step(rng, tutor, learner, 3)
                self.assert_same(tutor, learner)
            while learner.rows:
                self.do_undo(tutor, learner)
            self.assert_refused(NoDeed, tutor.undo)

    def test_what_stood_before_cannot_be_undone(self):
        tutor = Tutor(Course(SHORT))
        tutor += 0
        tutor -= 1

        def inner(held):
            self.assertEqual((held.deeds, len(held)), (0, 3))
            self.assert_refused(NoDeed, held.undo)
            held -= 4
            self.assertEqual((held.undo(), held.deeds), ((4, False), 0))
            self.assert_refused(NoDeed, held.undo)
            self.assertEqual((held.yes, held.no), ((0, 2), (1,)))

        def outer(held):
            self.assert_refused(NoDeed, held.undo)
            held += 2
            self.assertEqual((held.deeds, len(held), tuple(held)), (1, 3, ((0, True), (1, False), (2, True))))
            held.trial(inner)
            self.assertEqual(held.deeds, 1)
            self.assertEqual(held.undo(), (2, True))
            self.assert_refused(NoDeed, held.undo)
            return held.answer(3, True)

        self.assertEqual(tutor.trial(outer), 1)
        self.assertEqual((tutor.deeds, tuple(tutor)), (2, ((0, True), (1, False))))
        self.assertEqual((tutor.undo(), tutor.undo()), ((1, False), (0, True)))

    def test_what_a_deed_gives(self):
        tutor = Tutor(Course(SHORT))
        for value in (None, 0, (), [], "", {}, tutor, Broken, Broken("not raised")):
            self.assertIs(tutor.trial(lambda held: value), value)
        self.assertIs(tutor.trial(lambda held: held), tutor)
        broken = Broken("raised")

        def deed(held):
            held += 3
            raise broken

        before = all_told(tutor)
        with self.assertRaises(Broken) as caught:
            tutor.trial(deed)
        self.assertIs(caught.exception, broken)
        self.assertEqual(all_told(tutor), before)
        self.assertRaises(NoDeed, tutor.trial, Tutor.undo)
        self.assertEqual(all_told(tutor), before)

    def test_trials_of_two_tutors(self):
        one, other = Tutor(Course(SHORT)), Tutor(Course.chain(3))
        one += 0

        def deed(held):
            held += 1
            other.answer(1, True)
            return other.trial(lambda second: (second.answer(2, False), held.answer(2, True), second.deeds, held.deeds))

        self.assertEqual(one.trial(deed), (0, 2, 1, 2))
        # What a trial of one tutor does with another tutor stays.
        self.assertEqual((tuple(one), tuple(other)), (((0, True),), ((1, True),)))
        self.assertEqual((one.deeds, other.deeds), (1, 1))


class Twins(Told):
    def test_twins_change_independently(self):
        rng = random.Random(11)
        for course in [*courses(12, 25, 5), *layered(13, 25, 5)]:
            tutor, learner = Tutor(course), Learner(course)
            for _ in range(rng.randint(0, 4)):
                self.do_answer(tutor, learner, rng.randrange(len(course)), rng.random() < 0.5)
            twin, second = tutor.twin(), Learner(course)
            second.rows = list(learner.rows)
            self.assertIs(type(twin), Tutor)
            self.assertIsNot(twin, tutor)
            self.assertIs(twin == tutor, True)
            for _ in range(8):
                one, its = rng.choice(((tutor, learner), (twin, second)))
                if rng.random() < 0.3:
                    self.do_undo(one, its)
                else:
                    self.do_answer(one, its, rng.randrange(len(course)), rng.random() < 0.5)
                self.assert_same(tutor, learner)
                self.assert_same(twin, second)
                self.assertIs(tutor == twin, learner.rows == second.rows)
                self.assertIs(tutor != twin, learner.rows != second.rows)

    def test_twins_made_in_trials(self):
        rng = random.Random(14)
        for course in layered(15, 25, 5):
            tutor, learner = Tutor(course), Learner(course)
            self.do_answer(tutor, learner, 0, True)
            twins = []

            def deed(held):
                for _ in range(3):
                    try:
                        held.answer(rng.randrange(len(course)), rng.random() < 0.5)
                    except Clash:
                        pass
                    twins.append((held.twin(), list(held)))
                    self.assertIs(held == twins[-1][0], True)
                if len(twins) < 9:
                    held.trial(deed)

            tutor.trial(deed)
            self.assert_same(tutor, learner)
            for twin, rows in twins:
                its = Learner(course)
                its.rows = rows
                self.assert_same(twin, its)
                self.assertEqual(twin.deeds, len(twin))
                while its.rows:
                    self.do_undo(twin, its)
                self.assert_refused(NoDeed, twin.undo)

    def test_a_twin_of_a_tutor_in_its_own_trial(self):
        tutor = Tutor(Course(SHORT))
        tutor += 0

        def deed(held):
            twin = held.twin()
            self.assertEqual((twin.deeds, held.deeds, twin.undo(), tuple(held)), (1, 0, (0, True), ((0, True),)))
            return twin.trial(lambda second: (second.answer(1, True), second.deeds, held.deeds))

        self.assertEqual(tutor.trial(deed), (3, 1, 0))


def told_by(course, *rows):
    tutor = Tutor(course)
    for item, knows in rows:
        tutor.answer(item, knows)
    return tutor


class Equal(Told):
    def assert_equal(self, one, other, expected):
        for left, right in ((one, other), (other, one)):
            self.assertIs(left == right, expected)
            self.assertIs(left != right, not expected)

    def test_equal_courses_with_other_ways(self):
        # Item 2 can be learned behind items 0 and 1 alone, so the longer way of item 3 is of no use.
        one = Course((((),), ((0,),), ((0, 1),), ((2,),)))
        other = Course((((),), ((0,),), ((1,),), ((0, 2), (1, 2))))
        self.assertTrue(one == other and one.ways != other.ways)
        rows = ((3, False), (1, True))
        self.assert_equal(told_by(one), told_by(other), True)
        self.assert_equal(told_by(one, *rows), told_by(other, *rows), True)
        self.assert_equal(told_by(one, *rows), told_by(other, *rows[::-1]), False)
        self.assert_equal(told_by(one, *rows), told_by(other, *rows, (1, True)), False)

    def test_other_courses(self):
        course = Course(SHORT)
        for other in (Course.chain(5), Course.free(5), Course.chain(4), course + Course(((),))):
            self.assert_equal(told_by(course), told_by(other), False)
            self.assert_equal(told_by(course, (0, True)), told_by(other, (0, True)), False)
        self.assert_equal(told_by(course), told_by(Course(SHORT)), True)

    def test_other_deeds(self):
        course = Course(SHORT)
        base = ((0, True), (1, False))
        for rows in ((), base[:1], base[::-1], (*base, (0, True)), (*base, (2, True)), ((0, True), (1, True))):
            self.assert_equal(told_by(course, *base), told_by(course, *rows), False)
        tutor = told_by(course, *base, (2, True))
        tutor.undo()
        self.assert_equal(tutor, told_by(course, *base), True)
        self.assert_equal(tutor, tutor, True)
        # Deeds that cannot be undone for now are deeds, too.
        tutor.trial(lambda held: self.assert_equal(held, told_by(course, *base), True))

    def test_other_values(self):
        course = Course(SHORT)
        tutor = told_by(course, (0, True))
        for value in (*odd_values(course), course, tuple(tutor), [(0, True)], ((0, True),), 1, "", ()):
            self.assert_equal(tutor, value, False)
            self.assert_equal(Tutor(course), value, False)

    def test_equal_tutors_change_alone(self):
        one, other = Tutor(Course(SHORT)), Tutor(Course(SHORT))
        one += 1
        self.assert_equal(one, other, False)
        self.assertEqual(all_told(other), all_told(Tutor(Course(SHORT))))
        other += 1
        self.assert_equal(one, other, True)
        one.undo()
        self.assertEqual((one.deeds, other.deeds, other.yes), (0, 1, (1,)))


if __name__ == "__main__":
    unittest.main()
