"""Promises 41, 42, 44, 90 and 91: answers taken, refused and undone."""

import random
import unittest

from learnways.answers import fitting, reach, sure
from learnways.courses import Course
from learnways.errors import Clash, NoAnswers, NoDeed, NoItem
from learnways.orders import greatest, ready
from learnways.tutors import Tutor
from tests.certificates import strange_values
from tests.learners import Learner, Told, all_told
from tests.models import SHORT, courses, layered, odd_values, states_by_words


def some_courses(seed, many, most=6):
    return [*courses(seed, many, most), *layered(seed + 1000, many, most)]


class Answers(Told):
    def test_up_to_nine_answers_in_a_row(self):
        rng = random.Random(1)
        for course in some_courses(2, 60):
            tutor, learner = Tutor(course), Learner(course)
            self.assert_same(tutor, learner)
            for _ in range(rng.randint(0, 9)):
                item, knows = rng.randrange(len(course)), rng.random() < 0.5
                if learner.rows and rng.random() < 0.3:
                    item, knows = rng.choice(learner.rows)
                    knows = knows if rng.random() < 0.5 else not knows
                self.do_answer(tutor, learner, item, knows)
                self.assert_same(tutor, learner)

    def test_two_tutors_by_turns(self):
        rng = random.Random(3)
        both = some_courses(4, 25, 5)
        rng.shuffle(both)
        for one, other in zip(both, [*both[1:], both[1]]):
            pairs = [(Tutor(one), Learner(one)), (Tutor(other), Learner(other))]
            for turn in range(12):
                tutor, learner = pairs[turn % 2]
                self.do_answer(tutor, learner, rng.randrange(len(learner.course)), rng.random() < 0.6)
                for each in pairs:
                    self.assert_same(*each)
            # A new tutor of the same course knows only its own answers.
            self.assert_same(Tutor(one), Learner(one))

    def test_two_tutors_of_one_course(self):
        course = Course(SHORT)
        one, other = Tutor(course), Tutor(course)
        one.answer(4, True)
        other.answer(1, False)
        self.assertEqual((one.yes, one.no, other.yes, other.no), ((4,), (), (), (1,)))
        self.assertIs(one.course, course)
        self.assertEqual(list(Tutor(course)), [])

    def test_examples(self):
        tutor = Tutor(Course(SHORT))
        self.assertEqual(tutor.next_lesson(), 0)
        self.assertEqual(tutor.answer(4, True), 2)
        self.assertEqual(tutor.answer(1, False), 0)
        self.assertEqual([tutor[q] for q in range(5)], ["sure", "out", "sure", "sure", "sure"])
        self.assertEqual((tutor.yes, tutor.no, tutor.deeds, len(tutor)), ((4,), (1,), 2, 2))
        self.assertEqual(tutor.next_lesson(), 1)
        self.assertEqual(tuple(tutor), ((4, True), (1, False)))
        self.assertEqual(tutor.answer(4, True), 0)
        self.assertEqual((tuple(tutor), tutor.yes), (((4, True), (1, False), (4, True)), (4,)))
        with self.assertRaises(Clash) as caught:
            tutor.answer(4, False)
        self.assertEqual((caught.exception.item, caught.exception.noes), (4, (4,)))
        with self.assertRaises(Clash) as caught:
            tutor.answer(2, False)
        self.assertEqual((caught.exception.item, caught.exception.noes), (4, (1, 2)))
        self.assertEqual((tutor.no, tutor.deeds), ((1,), 3))

    def test_the_clash_of_the_answers_that_would_not_fit(self):
        # The item of the clash need not be the item that was answered.
        tutor = Tutor(Course.chain(4))
        tutor.answer(3, True)
        with self.assertRaises(Clash) as caught:
            tutor.answer(0, False)
        self.assertEqual((caught.exception.item, caught.exception.noes), (3, (0,)))
        # An item that is in no state clashes with nothing else.
        tutor = Tutor(Course(((), ((),))))
        with self.assertRaises(Clash) as caught:
            tutor.answer(0, True)
        self.assertEqual((caught.exception.item, caught.exception.noes), (0, ()))

    def test_lessons_by_what_is_not_known(self):
        # Only because item 3 is not known, item 1 was learned behind item 0, and so can item 2 be.
        tutor = Tutor(Course((((),), ((0,), (3,)), ((0,),), ((),))))
        tutor += 1
        self.assertEqual((tutor[0], tutor.next_lesson()), ("open", 0))
        tutor -= 3
        self.assertEqual((tutor[0], tutor[2], tutor.next_lesson()), ("sure", "open", 2))
        tutor -= 2
        # An item that is not known can be the next lesson.
        self.assertEqual((tutor[2], tutor.next_lesson()), ("out", 2))

    def test_what_was_told_stays(self):
        tutor = Tutor(Course(SHORT))
        tutor.answer(0, True)
        yes, rows = tutor.yes, iter(tutor)
        tutor.answer(1, True)
        self.assertEqual((yes, list(rows)), ((0,), [(0, True)]))
        for item, knows in tutor:
            tutor.undo()
        self.assertEqual(len(tutor), 0)
        tutor.answer(0, True)
        self.assertEqual([(a, b) for a in tutor for b in tutor], [((0, True), (0, True))])

    def test_properties_cannot_be_assigned(self):
        tutor = Tutor(Course(SHORT))
        for name in ("course", "yes", "no", "deeds"):
            with self.assertRaises(AttributeError):
                setattr(tutor, name, ())

    def test_long_courses(self):
        rng = random.Random(5)
        for course in [*courses(6, 12, 24, 14), *layered(7, 12, 24, 14)]:
            tutor, yes, no = Tutor(course), (), ()
            for _ in range(9):
                item, knows = rng.randrange(len(course)), rng.random() < 0.5
                more = tuple(sorted({*(yes if knows else no), item}))
                changed = (more, no) if knows else (yes, more)
                if item in (no if knows else yes) or fitting(course, *changed)[0] == "clash":
                    self.assert_refused(Clash, tutor.answer, item, knows)
                    continue
                yes, no = changed
                certain, out, rest = sure(course, yes, no)
                self.assertEqual(tutor.answer(item, knows), len(rest))
                self.assertEqual((tutor.yes, tutor.no), (yes, no))
                for q in range(len(course)):
                    self.assertEqual(tutor[q], "sure" if q in certain else "out" if q in out else "open")
                lessons = [q for q in range(len(course)) if q not in certain and reach(course, yes, no, q)[0] == "always"]
                self.assertEqual(tutor.next_lesson(), lessons[0] if lessons else None)


class Refused(Told):
    def behind_some_answers(self, seed):
        rng = random.Random(seed)
        for course in some_courses(seed, 6, 5):
            tutor, learner = Tutor(course), Learner(course)
            for _ in range(rng.randint(0, 4)):
                self.do_answer(tutor, learner, rng.randrange(len(course)), rng.random() < 0.5)
            yield tutor, learner

    def assert_unchanged(self, before, tutor, error, call, *passed):
        self.assert_refused(error, call, *passed)
        self.assertEqual(all_told(tutor), before)

    def test_items(self):
        def by_plus(value):
            name = tutor
            name += value

        def by_minus(value):
            name = tutor
            name -= value

        for tutor, learner in self.behind_some_answers(11):
            before = all_told(tutor)
            for value in odd_values(learner.course):
                for knows in (True, False, None, 0, 1):
                    self.assert_unchanged(before, tutor, NoItem, tutor.answer, value, knows)
                self.assert_unchanged(before, tutor, NoItem, by_plus, value)
                self.assert_unchanged(before, tutor, NoItem, by_minus, value)
                self.assert_unchanged(before, tutor, NoItem, lambda: tutor[value])
            self.do_answer(tutor, learner, 0, True)
            self.do_answer(tutor, learner, len(learner.course) - 1, False)
            self.assert_same(tutor, learner)

    def test_answers(self):
        for tutor, learner in self.behind_some_answers(12):
            before = all_told(tutor)
            for value in (None, 0, 1, -1, "", "True", (), (True,), [], [True], {}, learner.course, tutor, 10 ** 11):
                for item in range(len(learner.course)):
                    self.assert_unchanged(before, tutor, NoAnswers, tutor.answer, item, value)
                self.assert_unchanged(before, tutor, NoItem, tutor.answer, len(learner.course), value)
                self.assert_unchanged(before, tutor, NoItem, tutor.answer, value if type(value) is not int else -1, value)

    def test_nothing_to_undo(self):
        tutor = Tutor(Course(SHORT))
        before = all_told(tutor)
        for _ in range(2):
            self.assert_unchanged(before, tutor, NoDeed, tutor.undo)
        self.assert_refused(Clash, lambda: [tutor.answer(0, False), tutor.answer(4, True)])
        self.assertEqual(tutor.undo(), (0, False))
        self.assert_unchanged(before, tutor, NoDeed, tutor.undo)

    def test_any_value_in(self):
        for tutor, learner in self.behind_some_answers(13):
            before = all_told(tutor)
            for value in (*odd_values(learner.course), *strange_values(learner.course), tutor, (0, True), [tutor]):
                self.assertIs(value in tutor, False)
            for item in range(len(learner.course)):
                self.assertIs(item in tutor, learner.sort_of(item) == "sure")
            self.assertEqual(all_told(tutor), before)


class Undone(Told):
    def test_answers_and_undoings_in_a_row(self):
        rng = random.Random(21)
        for course in some_courses(22, 50):
            tutor, learner = Tutor(course), Learner(course)
            for _ in range(14):
                item, knows = rng.randrange(len(course)), rng.random() < 0.6
                kind = rng.random()
                if kind < 0.35:
                    self.do_undo(tutor, learner)
                elif kind < 0.65:
                    self.do_sign(tutor, learner, item, knows)
                else:
                    self.do_answer(tutor, learner, item, knows)
                self.assert_same(tutor, learner)
            while learner.rows:
                self.do_undo(tutor, learner)
                self.assert_same(tutor, learner)
            self.assert_refused(NoDeed, tutor.undo)

    def test_a_repeated_answer_is_undone_alone(self):
        tutor = Tutor(Course(SHORT))
        for _ in range(3):
            tutor += 3
        self.assertEqual((tutor.yes, tutor.deeds), ((3,), 3))
        self.assertEqual((tutor.undo(), tutor.undo(), tutor.yes, tutor[3]), ((3, True), (3, True), (3,), "sure"))
        self.assertEqual((tutor.undo(), tutor.yes, tutor[3], tutor.deeds), ((3, True), (), "open", 0))

    def test_signs_in_a_list(self):
        tutors = [Tutor(Course(SHORT)), Tutor(Course(SHORT))]
        first, second = tutors
        tutors[0] += 4
        tutors[1] -= 1
        self.assertIs(tutors[0], first)
        self.assertIs(tutors[1], second)
        self.assertEqual((first.yes, first.no, second.yes, second.no), ((4,), (), (), (1,)))
        with self.assertRaises(Clash):
            tutors[0] -= 4
        self.assertIs(tutors[0], first)


class Together(Told):
    """The answers of a learner in a state, in any order, and the lessons behind them."""

    def test_all_items_answered(self):
        rng = random.Random(31)
        for course in some_courses(32, 40, 7):
            state = rng.choice(sorted(states_by_words(course.ways)))
            tutor = Tutor(course)
            for item in rng.sample(range(len(course)), len(course)):
                many = tutor.answer(item, item in state)
                certain, out, rest = sure(course, tutor.yes, tutor.no)
                self.assertEqual(many, len(rest))
                self.assertEqual(tuple(q for q in range(len(course)) if q in tutor), certain)
                self.assertEqual([q for q in range(len(course)) if tutor[q] == "out"], list(out))
                lesson = tutor.next_lesson()
                # A lesson is for every learner with these answers, so for this one, too.
                self.assertTrue(lesson is None or lesson in state or lesson in ready(course, state))
            self.assertEqual((tutor.yes, rest), (state, ()))
            self.walk_on(course, state, tutor)

    def walk_on(self, course, state, tutor):
        lesson = tutor.next_lesson()
        while lesson is not None:
            self.assertEqual(lesson, ready(course, state)[0])
            state = tuple(sorted((*state, lesson)))
            tutor = Tutor(course)
            for item in range(len(course)):
                tutor.answer(item, item in state)
            lesson = tutor.next_lesson()
        self.assertEqual(ready(course, state), ())
        self.assertEqual(state, greatest(course))


if __name__ == "__main__":
    unittest.main()
