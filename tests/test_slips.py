"""Promises 50 and 51: wrong answers and case trees."""

import random
import unittest

from learnways.answers import fitting
from learnways.courses import Course
from learnways.errors import NoAnswers, NoPlace, NoSet
from learnways.needs import is_gate
from learnways.slips import fewest_wrong, is_case_tree
from tests.certificates import (
    Checked, closed_set, is_case_tree_by_words, some_answers, strange_values, variants,
)
from tests.models import SHORT, all_sets, courses, layered, odd_values, random_ways, states_by_words


def wrong_by_words(state, yes, no):
    return len([q for q in yes if q not in state]) + len([q for q in no if q in state])


def grown_case_tree(rng, course, yes, no, k):
    """A case tree with any items, any noes and any closed sets, which is none where the choice was bad."""
    shut = [q for q in yes if is_gate(course, no, q)]
    item = rng.choice(shut if shut and rng.random() < 0.98 else yes or range(len(course)))
    if k == 0:
        sets = [closed_set(rng, (course.ways,), no) for _ in range(4)]
        return ("clash", item, ([closed for closed in sets if item not in closed] or sets)[0])
    noes = tuple(q for q in no if rng.random() < 0.7)
    if item in noes or not is_gate(course, noes, item) and rng.random() < 0.95:
        noes = no
    less = tuple(q for q in yes if q != item)
    trees = [grown_case_tree(rng, course, less, no, k - 1)]
    trees += [grown_case_tree(rng, course, yes, tuple(q for q in no if q != each), k - 1) for each in noes]
    return ("clash", item, noes, tuple(trees))


def opposed(rng, n):
    """A course in which some items need others, and answers that these are known and those are not."""
    names = rng.sample(range(n), n)
    base, tops = names[:n // 2], names[n // 2:]
    most = rng.choice((1, 2, 3))
    ways = {item: ((),) for item in base}
    for place, item in enumerate(tops):
        # Each needs an item of its own in each way, so that one wrong answer seldom settles all.
        pool = base if rng.random() < 0.8 else names[:n // 2 + place]
        ways[item] = tuple(
            tuple(sorted({base[(place + turn) % len(base)], *rng.sample(pool, rng.randint(0, 1))}))
            for turn in range(rng.randint(1, most)))
    yes = tuple(q for q in range(n) if q in tops and rng.random() < 0.95)
    no = tuple(q for q in range(n) if q in base and rng.random() < 0.95)
    return Course(tuple(ways[item] for item in range(n))), yes, no


class FewestWrong(Checked):
    def check(self, course, states, yes, no):
        number, state, tree = found = self.same_again(fewest_wrong, course, yes, no)
        self.assertIs(type(number), int)
        self.assertEqual(number, min(wrong_by_words(each, yes, no) for each in states))
        self.assertIn(state, states)
        self.assertEqual(wrong_by_words(state, yes, no), number)
        self.assertEqual(number == 0, fitting(course, yes, no)[0] == "fits")
        if number == 0:
            self.assertIsNone(tree)
        else:
            self.assertTrue(is_case_tree_by_words(course.ways, states, yes, no, number - 1, tree))
            for k in range(number + 3):
                self.assertIs(is_case_tree(course, yes, no, k, tree), k == number - 1)
        return found

    def test_all_states(self):
        rng = random.Random(501)
        numbers = []
        for course in courses(502, 150, 7) + layered(502, 150, 7):
            states = states_by_words(course.ways)
            self.check(course, states, *some_answers(rng, sorted(states), len(course)))
        for _ in range(300):
            course, yes, no = opposed(rng, rng.randint(2, 9))
            numbers.append(self.check(course, states_by_words(course.ways), yes, no)[0])
        for number in range(5):
            self.assertGreater(numbers.count(number), 4)

    def test_all_answers_of_small_courses(self):
        for course in [Course(SHORT), *courses(503, 12, 4), *layered(503, 12, 4)]:
            states = states_by_words(course.ways)
            for yes in all_sets(len(course)):
                for no in all_sets(len(course)):
                    if not set(yes) & set(no):
                        self.check(course, states, yes, no)

    def test_twelve_items(self):
        rng = random.Random(504)
        numbers = []
        for _ in range(40):
            course, yes, no = opposed(rng, rng.randint(10, 12))
            numbers.append(self.check(course, states_by_words(course.ways), yes, no)[0])
        self.assertGreater(max(numbers), 3)

    def test_number_without_an_answer(self):
        rng = random.Random(508)
        steps = []
        for _ in range(60):
            course, yes, no = opposed(rng, rng.randint(4, 18))
            number = fewest_wrong(course, yes, no)[0]
            for each in yes + no:
                less, tree = fewest_wrong(
                    course, tuple(q for q in yes if q != each), tuple(q for q in no if q != each))[::2]
                steps.append(number - less)
                self.assertIn(number - less, (0, 1))
                self.assertIs(tree is None, less == 0)
        self.assertGreater(min(steps.count(0), steps.count(1)), 50)

    def test_examples(self):
        course = Course(SHORT)
        self.assertEqual(fewest_wrong(course, (4,), (1,)), (0, (0, 2, 3, 4), None))
        self.assertEqual(fewest_wrong(course, (), ())[0], 0)
        number, state, tree = fewest_wrong(course, (4,), (1, 2))
        self.assertEqual(number, 1)
        self.assertEqual(tree, ("clash", 4, (0,)))
        self.assertEqual(fewest_wrong(course, (1, 2, 3, 4), (0,)), (1, (0, 1, 2, 3, 4), ("clash", 1, ())))
        # Items in no state are wrong in yes in any case.
        self.assertEqual(fewest_wrong(Course(((), ((0,),), ((),))), (0, 1), (2,))[:2], (2, ()))

    def test_many_wrong_answers(self):
        course = Course(((),) * 12)
        number, state, tree = fewest_wrong(course, tuple(range(12)), ())
        self.assertEqual((number, state), (12, ()))
        self.assertIs(is_case_tree(course, tuple(range(12)), (), 11, tree), True)
        course = Course((((),),) * 8 + tuple(((q,),) for q in range(8)))
        number, state, tree = fewest_wrong(course, tuple(range(8, 16)), tuple(range(8)))
        self.assertEqual((number, wrong_by_words(state, tuple(range(8, 16)), tuple(range(8)))), (8, 8))
        self.assertIs(is_case_tree(course, tuple(range(8, 16)), tuple(range(8)), 7, tree), True)

    def test_courses_that_operators_return(self):
        rng = random.Random(506)
        for _ in range(40):
            one, yes, no = opposed(rng, rng.randint(4, 8))
            other = Course(random_ways(rng, len(one)))
            for course in (one & other, one | other):
                self.check(course, states_by_words(course.ways), yes, no)

    def test_refused(self):
        course = Course(SHORT)
        calls = (lambda yes, no: fewest_wrong(course, yes, no), lambda yes, no: is_case_tree(course, yes, no, 0, ()),
                 lambda yes, no: is_case_tree(course, yes, no, -1, ()))
        for call in calls:
            for value in [*odd_values(course), 0, [0]]:
                self.assert_raises_only(NoSet, call, value, (0,))
                self.assert_raises_only(NoSet, call, (0,), value)
            for yes in all_sets(5):
                for no in all_sets(5):
                    if set(yes) & set(no):
                        self.assert_raises_only(NoAnswers, call, yes, no)

    def test_no_numbers(self):
        course = Course(SHORT)
        for value in [*odd_values(course), -2, (0,), [1]]:
            if type(value) is int and value >= 0:
                self.assertIs(is_case_tree(course, (4,), (0,), value, ()), False)
            else:
                self.assert_raises_only(NoPlace, is_case_tree, course, (4,), (0,), value, ("clash", 4, ()))


class CaseTreesKnown(Checked):
    def check(self, course, states, yes, no, k, value):
        expected = is_case_tree_by_words(course.ways, states, yes, no, k, value)
        self.assertIs(is_case_tree(course, yes, no, k, value), expected, (course.ways, yes, no, k, value))
        return expected

    def test_grown_trees(self):
        rng = random.Random(511)
        found = []
        for _ in range(500):
            course, yes, no = opposed(rng, rng.randint(4, 10))
            states = states_by_words(course.ways)
            for k in range(min(fewest_wrong(course, yes, no)[0] + 1, 4)):
                tree = grown_case_tree(rng, course, yes, no, k)
                values = variants(rng, tree, course, 3) if len(str(tree)) < 1000 else (tree,)
                for value in values:
                    found.append((self.check(course, states, yes, no, k, value), k))
        for k in range(4):
            self.assertGreater(found.count((True, k)), 20)
            self.assertGreater(found.count((False, k)), 50)

    def test_trees_of_the_package_with_changes(self):
        rng = random.Random(513)
        good = []
        for _ in range(300):
            course, yes, no = opposed(rng, rng.randint(5, 10))
            states = states_by_words(course.ways)
            number, _, tree = fewest_wrong(course, yes, no)
            if 0 < number < 6:
                for value in variants(rng, tree, course, 25):
                    good += [number] * self.check(course, states, yes, no, number - 1, value)
                self.check(course, states, *some_answers(rng, sorted(states), len(course)), number - 1, tree)
        for number in (1, 2, 3, 4):
            self.assertGreater(good.count(number), 10)

    def test_branches_exchanged(self):
        course = Course((((),), ((),), ((0,), (1,)), ((0,), (1,))))
        number, _, tree = fewest_wrong(course, (2, 3), (0, 1))
        self.assertEqual(number, 1)
        yes, no = (2, 3), (0, 1)
        self.assertIs(is_case_tree(course, yes, no, 0, tree), True)
        self.assertIs(is_case_tree(course, yes, no, 0, ("clash", 3, ())), True)
        self.assertIs(is_case_tree(course, yes, no, 0, ("clash", 2, ())), True)
        self.assertIs(is_case_tree(course, yes, no, 0, ("clash", 2, (3,))), True)
        for value in (("clash", 1, ()), ("clash", 0, ()), ("clash", 2, (2,)), ("clash", 2, (0,)), ("clash", 2, []),
                      ("clash", 2, (), ()), ("clash", 2), ["clash", 2, ()], ("clash", 4, ()), ("clash", "2", ())):
            self.assertIs(self.check(course, states_by_words(course.ways), yes, no, 0, value), False)

    def test_two_wrong_answers(self):
        course = Course((((),), ((),), ((0,),), ((1,),)))
        states = states_by_words(course.ways)
        yes, no = (2, 3), (0, 1)
        tree = ("clash", 2, (0,), (("clash", 3, (0,)), ("clash", 3, (0, 2))))
        self.assertEqual(fewest_wrong(course, yes, no)[0], 2)
        self.assertIs(self.check(course, states, yes, no, 1, tree), False)
        leaf = ("clash", 3, ())
        tree = ("clash", 2, (0,), (leaf, ("clash", 3, (0, 2))))
        self.assertIs(self.check(course, states, yes, no, 1, tree), True)
        both = ("clash", 2, (0, 1), (leaf, ("clash", 3, (0, 2)), ("clash", 2, (1, 3))))
        self.assertIs(self.check(course, states, yes, no, 1, both), True)
        for value in (tree[:3], (*tree, ()), ("clash", 3, *tree[2:]), ("clash", 2, (1,), tree[3]),
                      ("clash", 2, (), tree[3][:1]), ("clash", 2, (0,), tree[3][:1]), ("clash", 2, (0,), tree[3][::-1]),
                      ("clash", 2, (0, 2), (*tree[3], leaf)), ("clash", 2, (0,), (*tree[3], leaf)),
                      ("clash", 2, [0], tree[3]), ("clash", 2, (0,), list(tree[3])), ("clash", 2, (False,), tree[3]),
                      ("clash", 2, (0, 1), (leaf, ("clash", 2, (1, 3)), ("clash", 3, (0, 2)))),
                      ("clash", 2, (0,), (leaf, leaf)), ("clash", 2, (0,), (leaf, ("clash", 2, (0, 2))))):
            self.assertIs(self.check(course, states, yes, no, 1, value), False)
        for k in (0, 2, 3, 10 ** 11):
            self.assertIs(self.check(course, states, yes, no, k, tree), False)

    def test_items_that_are_in_no_set_any_more(self):
        # Item 3 is left out of yes, so it is in no clash below; item 0 is left out of no.
        course = Course((((),), ((0,),), ((0,),), ((1,), (2,))))
        states = states_by_words(course.ways)
        tree = ("clash", 3, (0,), (("clash", 3, ()), ("clash", 3, ())))
        self.assertIs(self.check(course, states, (3,), (0,), 1, tree), False)
        tree = ("clash", 3, (0,), (("clash", 2, ()), ("clash", 3, (0, 2))))
        self.assertIs(self.check(course, states, (2, 3), (0, 1), 1, tree), False)
        tree = ("clash", 2, (0,), (("clash", 3, ()), ("clash", 2, (0, 1))))
        self.assertIs(self.check(course, states, (2, 3), (0, 1), 1, tree), False)

    def test_deep_values(self):
        course = Course(((),) * 24)
        yes = tuple(range(24))
        number, _, tree = fewest_wrong(course, yes, ())
        self.assertEqual(number, 24)
        self.assertIs(is_case_tree(course, yes, (), 23, tree), True)
        for _ in range(5000):
            tree = ("clash", 0, (), (tree,))
        for k in (0, 1, 23, 5023, 10 ** 11):
            self.assertIs(is_case_tree(course, yes, (), k, tree), False)

    def test_other_values(self):
        for course in (Course(SHORT), Course.free(1), Course(((), ())), *courses(515, 2, 7)):
            states = states_by_words(course.ways)
            n = len(course)
            for value in strange_values(course):
                for k in (0, 1, 2, 24, 10 ** 11):
                    for yes, no in (((), ()), ((0,), ()), ((n - 1,), tuple(range(n - 1)))):
                        self.check(course, states, yes, no, k, value)


if __name__ == "__main__":
    unittest.main()
