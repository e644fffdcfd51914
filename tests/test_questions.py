"""Promises 40, 42 and 81: what to ask next, and question trees."""

import random

from learnways.counting import best_question, is_question_tree, questions
from learnways.courses import Course
from learnways.errors import Clash, NoAnswers, NoSet, TooMany
from tests.certificates import (
    Checked, clash_by_words, fitting_states, is_set_by_words, some_answers, strange_values, variants,
)
from tests.models import SHORT, courses, layered, odd_values, states_by_words


def parts(fit, item):
    """The states with the item, and those without it."""
    return [state for state in fit if item in state], [state for state in fit if item not in state]


def open_by_words(fit, n):
    return [q for q in range(n) if all(parts(fit, q))]


def best_by_words(fit, n):
    halves = [(abs(len(parts(fit, q)[0]) - len(parts(fit, q)[1])), q) for q in open_by_words(fit, n)]
    return min(halves)[1] if halves else None


def least_depth(fit, n, known):
    """The least depth of a question tree for the states."""
    key = frozenset(fit)
    if len(fit) == 1:
        return 0
    if key not in known:
        known[key] = 1 + min(max(least_depth(part, n, known) for part in parts(fit, q)) for q in open_by_words(fit, n))
    return known[key]


def depth_of(tree):
    return 1 + max(depth_of(part) for part in tree[2:]) if tree[:1] == ("ask",) else 0


def is_tree_by_words(fit, n, value):
    """Whether any value is a question tree for the states that fit."""
    if type(value) is not tuple:
        return False
    if len(value) == 4 and type(value[0]) is str and value[0] == "ask":
        item = value[1]
        if type(item) is not int or item not in open_by_words(fit, n):
            return False
        return all(is_tree_by_words(part, n, tree) for part, tree in zip(parts(fit, item), value[2:]))
    return is_set_by_words(n, value) and fit == [value]


def some_tree(rng, fit, n):
    """A question tree that asks for any open items."""
    if len(fit) == 1:
        return fit[0]
    item = rng.choice(open_by_words(fit, n))
    return ("ask", item, *(some_tree(rng, part, n) for part in parts(fit, item)))


def with_branches_exchanged(rng, tree):
    """The tree with the two branches of one question exchanged."""
    if tree[:1] != ("ask",):
        return tree
    _, item, one, other = tree
    kind = rng.randrange(3)
    if kind == 0:
        return ("ask", item, other, one)
    if kind == 1:
        return ("ask", item, with_branches_exchanged(rng, one), other)
    return ("ask", item, one, with_branches_exchanged(rng, other))


class Questions(Checked):
    def assert_too_many(self, limit, call, *passed):
        self.assertEqual(self.assert_raises_only(TooMany, call, *passed).limit, limit)

    def assert_clash(self, expected, call, *passed):
        error = self.assert_raises_only(Clash, call, *passed)
        self.assertEqual((error.item, error.noes), expected)

    def refuse_answers(self, call, *more):
        course = Course(SHORT)
        for value in [*odd_values(course), 0, [0]]:
            for yes, no in ((value, ()), ((), value), (value, value), (value, (4,)), ((0, 1), value)):
                self.assert_raises_only(NoSet, call, course, yes, no, *more)
        for yes, no in (((0,), (0,)), ((1, 4), (1, 2, 4)), ((0, 1, 2, 3, 4), (4,)), ((4,), (1, 2, 4))):
            self.assert_raises_only(NoAnswers, call, course, yes, no, *more)
        self.assert_clash((4, (1, 2)), call, course, (4,), (1, 2), *more)
        self.assert_clash((1, (0,)), call, course, (1, 4), (0, 3), *more)
        self.assert_clash((0, ()), call, Course(((), ((),))), (0, 1), (), *more)


class BestQuestion(Questions):
    def check_best(self, course, all_states, yes, no):
        fit = fitting_states(all_states, yes, no)
        if fit:
            expected = best_by_words(fit, len(course))
            self.assertEqual(self.same_again(best_question, course, yes, no), expected, (course.ways, yes, no))
        else:
            self.assert_clash(clash_by_words(all_states, yes, no), best_question, course, yes, no)

    def test_answers_of_learners(self):
        rng = random.Random(1)
        for course in [*courses(2, 120, 7), *layered(3, 80, 7)]:
            all_states = sorted(states_by_words(course.ways))
            self.check_best(course, all_states, (), ())
            for _ in range(6):
                self.check_best(course, all_states, *some_answers(rng, all_states, len(course)))

    def test_twelve_items(self):
        rng = random.Random(4)
        for course in [*courses(5, 8, 12, 11), *layered(6, 8, 12, 11)]:
            all_states = sorted(states_by_words(course.ways))
            self.check_best(course, all_states, *some_answers(rng, all_states, len(course)))
        self.assertEqual(best_question(Course.free(12), (), ()), 0)
        self.assertEqual(best_question(Course.free(12), (0, 3), (1,)), 2)
        self.assertEqual(best_question(Course.chain(12), (), ()), 5)

    def test_examples(self):
        course = Course(SHORT)
        self.assertEqual(best_question(course, (), ()), 1)
        self.assertEqual(best_question(course, (4,), (1,)), None)
        self.assertEqual(best_question(course, (0, 1, 2, 3, 4), ()), None)
        self.assertEqual(best_question(course, (), (0,)), None)
        self.assertEqual(best_question(Course(((),)), (), ()), None)
        self.assertEqual(best_question(Course((((),),)), (), ()), 0)

    def test_refused(self):
        self.refuse_answers(best_question)

    def test_too_many_comes_first(self):
        for course in (Course.free(13), Course.chain(24), Course(((),) * 13)):
            for yes, no in (((), ()), (None, ()), ((), [1]), ((0,), (0,)), ((1,), (0,)), (True, 25)):
                self.assert_too_many(12, best_question, course, yes, no)


class QuestionTrees(Questions):
    def walk(self, tree, state):
        while tree[:1] == ("ask",):
            tree = tree[2] if tree[1] in state else tree[3]
        return tree

    def check_tree(self, course):
        all_states = sorted(states_by_words(course.ways))
        tree = self.same_again(questions, course)
        for state in all_states:
            self.assertEqual(self.walk(tree, state), state)
        self.assertTrue(is_tree_by_words(all_states, len(course), tree), (course.ways, tree))
        self.assertIs(is_question_tree(course, (), (), tree), True)
        self.assertEqual(depth_of(tree), least_depth(all_states, len(course), {}), course.ways)

    def test_small_courses(self):
        for course in [*courses(11, 100, 5), *layered(12, 60, 5)]:
            self.check_tree(course)

    def test_six_items(self):
        for course in [*courses(13, 12, 6, 6), *layered(14, 12, 6, 6), Course.chain(6)]:
            self.check_tree(course)
        self.assertEqual(depth_of(questions(Course.free(6))), 6)
        self.assertEqual(depth_of(questions(Course.chain(6))), 3)

    def test_examples(self):
        self.assertEqual(questions(Course(((), ()))), ())
        self.assertEqual(questions(Course((((),),))), ("ask", 0, (0,), ()))
        self.assertEqual(questions(Course.chain(3)), ("ask", 1, ("ask", 2, (0, 1, 2), (0, 1)), ("ask", 0, (0,), ())))

    def test_the_best_question_first_may_be_deeper(self):
        # The least depth is not found by halving as well as possible each time.
        course = Course((((),), ((),), ((0,), (1,)), ((2,), (0, 1)), ((3,),), ((2, 4),)))
        self.assertEqual(self.by_halves(sorted(states_by_words(course.ways)), 6), 6)
        self.assertEqual(depth_of(questions(course)), 5)
        self.check_tree(course)

    def by_halves(self, fit, n):
        if len(fit) == 1:
            return 0
        return 1 + max(self.by_halves(part, n) for part in parts(fit, best_by_words(fit, n)))

    def test_too_many(self):
        for course in (Course.free(7), Course.chain(7), Course(((),) * 7), Course.chain(12), Course.chain(13),
                       Course.free(24), *courses(16, 10, 24, 7)):
            self.assert_too_many(6, questions, course)


class Known(Questions):
    def check_known(self, course, fit, yes, no, value):
        found = is_question_tree(course, yes, no, value)
        self.assertIs(found, is_tree_by_words(fit, len(course), value), (course.ways, yes, no, value))
        return found

    def test_trees_of_any_open_items(self):
        rng = random.Random(21)
        found = {True: 0, False: 0}
        for course in [*courses(22, 60, 6), *layered(23, 60, 6)]:
            all_states = sorted(states_by_words(course.ways))
            for yes, no in (((), ()), some_answers(rng, all_states, len(course))):
                fit = fitting_states(all_states, yes, no)
                if not fit:
                    self.assert_clash(clash_by_words(all_states, yes, no), is_question_tree, course, yes, no, ())
                    continue
                tree = some_tree(rng, fit, len(course))
                self.assertIs(is_question_tree(course, yes, no, tree), True)
                found[self.check_known(course, fit, yes, no, with_branches_exchanged(rng, tree))] += 1
                for value in variants(rng, tree, course, 12):
                    found[self.check_known(course, fit, yes, no, value)] += 1
        self.assertGreater(min(found.values()), 100)

    def test_only_open_items_are_asked_for(self):
        rng = random.Random(26)
        many = 0
        for course in courses(27, 60, 5):
            all_states = sorted(states_by_words(course.ways))
            yes, no = some_answers(rng, all_states, len(course))
            fit = fitting_states(all_states, yes, no)
            if fit:
                tree = some_tree(rng, fit, len(course))
                for item in set(range(len(course))) - set(open_by_words(fit, len(course))):
                    many += 1
                    for other in (tree, fit[-1], ()):
                        for value in (("ask", item, tree, other), ("ask", item, other, tree)):
                            self.assertIs(is_question_tree(course, yes, no, value), False)
        self.assertGreater(many, 40)
        self.assertIs(is_question_tree(Course(((),)), (), (), ("ask", 0, (), ())), False)
        self.assertIs(is_question_tree(Course.free(2), (), (0, 1), ("ask", 0, (), ())), False)
        self.assertIs(is_question_tree(Course.free(2), (0, 1), (), ("ask", 0, (0, 1), (0, 1))), False)

    def test_other_answers(self):
        rng = random.Random(24)
        for course in layered(25, 60, 6):
            all_states = sorted(states_by_words(course.ways))
            tree = some_tree(rng, all_states, len(course))
            for _ in range(5):
                yes, no = some_answers(rng, all_states, len(course))
                fit = fitting_states(all_states, yes, no)
                if fit:
                    self.check_known(course, fit, yes, no, tree)
                    for state in rng.sample(all_states, min(3, len(all_states))):
                        self.check_known(course, fit, yes, no, state)

    def test_longer_courses(self):
        # The interface names no limit for the trees that are checked.
        for n in (7, 12, 13, 24):
            course, whole = Course.chain(n), tuple(range(n))
            tree = whole
            for item in reversed(range(n)):
                tree = ("ask", item, tree, tuple(range(item)))
            self.assertIs(is_question_tree(course, (), (), tree), True)
            self.assertIs(is_question_tree(course, (), (), ("ask", 0, *tree[3:], tree[2])), False)
            self.assertIs(is_question_tree(course, (), (n - 1,), tree), False)
            self.assertIs(is_question_tree(course, (0,), (), tree[2]), True)
            self.assertIs(is_question_tree(course, (n - 1,), (), whole), True)
            self.assertIs(is_question_tree(course, (), (), whole), False)
            self.assertIs(is_question_tree(course, (), (0,), ()), True)

    def test_examples(self):
        course = Course.chain(2)
        good = ("ask", 0, ("ask", 1, (0, 1), (0,)), ())
        self.assertIs(is_question_tree(course, (), (), good), True)
        for value in (
            ("ask", 0, (), ("ask", 1, (0, 1), (0,))), ("ask", 1, ("ask", 0, (0, 1), (0,)), ()), ("ask", 0, (0, 1), ()),
            ("ask", 0, ("ask", 1, (0,), (0, 1)), ()), ("ask", 0, ("ask", 0, (0, 1), (0,)), ()), (), (0,), (0, 1),
            ("ask", 0, ("ask", 1, (0, 1), (0,)), ("ask", 1, (1,), ())), ["ask", *good[1:]], list(good), (*good, ()),
            ("ask", False, *good[2:]), ("ask", 0, ("ask", True, (0, 1), (0,)), ()), ("Ask", *good[1:]), good[:3],
            ("ask", 0, ("ask", 1, (0, True), (0,)), ()), ("ask", 0, ("ask", 1, [0, 1], (0,)), ()), (1,), (1, 0),
        ):
            self.assertIs(is_question_tree(course, (), (), value), False)
        self.assertIs(is_question_tree(course, (0,), (1,), (0,)), True)
        self.assertIs(is_question_tree(course, (0,), (1,), (False,)), False)
        self.assertIs(is_question_tree(course, (1,), (), (0, 1)), True)

    def test_any_other_values(self):
        course = Course(SHORT)
        tree = questions(course)
        deep = ()
        for _ in range(5000):
            deep = ("ask", 0, deep, deep)
        for value in (*strange_values(course), deep, ("ask", 0, deep), ("ask",), ("ask", 0), "ask", {"ask": 0}):
            for whole in (value, ("ask", value, *tree[2:]), (value, *tree[1:]), (*tree[:2], value, tree[3]),
                          (*tree[:3], value), (*tree, value)):
                self.check_known(course, sorted(states_by_words(SHORT)), (), (), whole)

    def test_refused(self):
        for value in ((), None, questions(Course(SHORT)), ("ask", 0, (), ()), [()]):
            self.refuse_answers(is_question_tree, value)


if __name__ == "__main__":
    import unittest
    unittest.main()
