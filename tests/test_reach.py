"""Promise 44: items within reach, and trees."""

import random
import unittest

from learnways.answers import fitting, is_tree, reach
from learnways.courses import Course
from learnways.masks import mask_of
from learnways.trees import tree_for
from tests.certificates import (
    Checked, changed, fitting_states, grown_tree, is_tree_by_words, keeps_off_avoided, some_answers, strange_values,
    variants,
)
from tests.models import (
    SHORT, courses, greatest_by_words, has_way_by_words, layered, odd_values, random_ways, states_by_words,
)


def tree_by_words(course, avoided, wanted, item, value):
    return is_tree_by_words((course.ways,), course[item], avoided, wanted, value)


class Reach(Checked):
    def check(self, course, states, yes, no, item):
        fit = fitting_states(states, yes, no)
        within = [state for state in fit if has_way_by_words(course[item], state)]
        found = self.same_again(reach, course, yes, no, item)
        if not within:
            self.assertEqual(found, ("never", greatest_by_words(states, no)))
        elif len(within) < len(fit):
            word, state, other = found
            self.assertEqual(word, "sometimes")
            self.assertIn(state, within)
            self.assertIn(other, fit)
            self.assertNotIn(other, within)
        else:
            word, tree = found
            self.assertEqual(word, "always")
            self.assertTrue(tree_by_words(course, no, yes, item, tree))
            self.assertIs(is_tree(course, no, yes, item, tree), True)
            self.assertTrue(keeps_off_avoided(no, tree))
        return found[0]

    def test_all_states(self):
        rng = random.Random(401)
        words = []
        for course in courses(402, 120, 7) + layered(402, 200, 7):
            states = sorted(states_by_words(course.ways))
            for _ in range(3):
                yes, no = some_answers(rng, states, len(course))
                if fitting_states(states, yes, no):
                    for item in range(len(course)):
                        words.append(self.check(course, states, yes, no, item))
        for word in ("always", "sometimes", "never"):
            self.assertGreater(words.count(word), 400)

    def test_few_answers_about_nine_items(self):
        rng = random.Random(403)
        branching = 0
        for course in layered(404, 120, 9, 7):
            states = sorted(states_by_words(course.ways))
            for _ in range(3):
                yes = tuple(sorted(rng.sample(range(3, len(course)), 2)))
                no = tuple(q for q in range(len(course)) if q not in yes and rng.random() < 0.15)
                if fitting_states(states, yes, no):
                    for item in range(len(course)):
                        word = self.check(course, states, yes, no, item)
                        branching += word == "always" and len(str(reach(course, yes, no, item))) > 60
        self.assertGreater(branching, 100)

    def test_several_ways_are_needed(self):
        # Whoever knows 4 knows 0 and 1, or 2 and 3: so one of the ways of 5, but of none is it sure.
        course = Course((((),), ((),), ((),), ((),), ((0, 1), (2, 3)), ((0, 2), (0, 3), (1, 2), (1, 3), (0, 1), (2, 3))))
        states = sorted(states_by_words(course.ways))
        self.assertEqual(self.check(course, states, (4,), (), 5), "always")
        self.assertEqual(self.check(course, states, (), (), 5), "sometimes")
        self.assertEqual(self.check(course, states, (0,), (1, 2, 3), 5), "never")
        course = Course(course.ways[:5] + (((0, 2), (0, 3), (1, 2), (1, 3)),))
        self.assertEqual(self.check(course, states, (4,), (), 5), "sometimes")

    def test_item_that_is_known_or_not_known(self):
        course = Course(SHORT)
        states = sorted(states_by_words(SHORT))
        self.assertEqual(self.check(course, states, (4,), (), 4), "always")
        self.assertEqual(self.check(course, states, (4,), (), 3), "always")
        self.assertEqual(self.check(course, states, (3,), (4,), 4), "always")
        self.assertEqual(self.check(course, states, (), (4,), 4), "sometimes")
        self.assertEqual(self.check(course, states, (), (0,), 0), "always")
        self.assertEqual(self.check(course, states, (), (0,), 1), "never")

    def test_examples(self):
        course = Course(SHORT)
        self.assertEqual(reach(course, (), (0,), 4), ("never", ()))
        self.assertEqual(reach(course, (), (1, 2), 4), ("never", (0,)))
        self.assertEqual(reach(course, (), (), 0), ("always", ("way", (), ())))
        self.assertEqual(reach(Course(((), ((),))), (), (), 0), ("never", (1,)))

    def test_large_courses(self):
        rng = random.Random(405)
        words = []
        for course in courses(406, 20, 18, 12) + layered(406, 40, 18, 12):
            n = len(course)
            yes, no = (), ()
            for item in rng.sample(range(n), min(14, n)):
                more = (tuple(sorted((*yes, item))), no) if rng.random() < 0.5 else (yes, tuple(sorted((*no, item))))
                if fitting(course, *more)[0] == "fits":
                    yes, no = more
                words.append(self.check_large(course, yes, no, rng.randrange(n)))
        for word in ("always", "sometimes", "never"):
            self.assertGreater(words.count(word), 50)

    def check_large(self, course, yes, no, item):
        found = reach(course, yes, no, item)
        if found[0] == "always":
            self.assertIs(is_tree(course, no, yes, item, found[1]), True)
            self.assertTrue(tree_by_words(course, no, yes, item, found[1]))
            self.assertTrue(keeps_off_avoided(no, found[1]))
        for state in found[1:] if found[0] == "sometimes" else ():
            self.assertTrue(state in course and set(yes) <= set(state) and not set(no) & set(state))
        if found[0] == "sometimes":
            self.assertTrue(has_way_by_words(course[item], found[1]))
            self.assertFalse(has_way_by_words(course[item], found[2]))
        if found[0] == "never":
            self.assertEqual(found[1], fitting(course, yes, no)[1])
            self.assertFalse(has_way_by_words(course[item], found[1]))
        return found[0]

    def test_courses_that_operators_return(self):
        rng = random.Random(407)
        for one in layered(408, 25, 7, 4):
            other = Course(random_ways(rng, len(one)))
            for course in (one & other, one | other):
                states = sorted(states_by_words(course.ways))
                yes, no = some_answers(rng, states, len(course))
                if fitting_states(states, yes, no):
                    for item in range(len(course)):
                        self.check(course, states, yes, no, item)


class TreesKnown(Checked):
    def check(self, course, avoided, wanted, item, value):
        expected = tree_by_words(course, avoided, wanted, item, value)
        self.assertIs(is_tree(course, avoided, wanted, item, value), expected,
                      (course.ways, avoided, wanted, item, value))
        return expected

    def test_grown_trees(self):
        rng = random.Random(411)
        found = []
        for course in courses(412, 150, 7) + layered(412, 250, 7):
            n = len(course)
            for _ in range(4):
                avoided = tuple(q for q in range(n) if rng.random() < 0.2)
                wanted = tuple(q for q in range(n) if rng.random() < 0.4)
                item = rng.randrange(n)
                tree = grown_tree(rng, (course.ways,), course[item], avoided, wanted, rng.randint(0, 4))
                good = self.check(course, avoided, wanted, item, tree)
                found.append((good, tree[0]))
                if len(str(tree)) < 2000:
                    for value in variants(rng, tree, course, 8):
                        self.check(course, avoided, wanted, item, value)
        for kind in ((True, "way"), (False, "way"), (True, "short"), (False, "short")):
            self.assertGreater(found.count(kind), 100)

    def test_trees_of_the_package_with_changes(self):
        rng = random.Random(413)
        good = 0
        for course in layered(414, 250, 8, 3):
            states = sorted(states_by_words(course.ways))
            yes, no = some_answers(rng, states, len(course))
            if not fitting_states(states, yes, no):
                continue
            for item in range(len(course)):
                found = reach(course, yes, no, item)
                if found[0] == "always":
                    for value in variants(rng, found[1], course, 8):
                        good += self.check(course, no, yes, item, value)
                    self.check(course, no, yes, rng.randrange(len(course)), found[1])
                    other = some_answers(rng, states, len(course))
                    self.check(course, other[0], other[1], item, found[1])
        self.assertGreater(good, 800)

    def test_branches_exchanged(self):
        course = Course((((),), ((),), ((),), ((),), ((0, 1), (2, 3)), ((0, 2), (0, 3), (1, 2), (1, 3), (0, 1), (2, 3))))
        word, tree = reach(course, (4,), (), 5)
        self.assertEqual((word, tree[0]), ("always", "way"))
        way, trees = tree[1:]
        for value in (("way", way, trees[::-1]), ("way", way[::-1], trees), ("way", way, trees[:1]), ("way", way, ()),
                      ("way", way, trees + trees), ("way", way, list(trees)), ("way", list(way), trees),
                      ("way", way, (trees[0], trees[0])), ("way", way, (trees[1], trees[1])), ("way", way), trees[0],
                      ["way", way, trees], ("way", (0,), trees[:1]), ("way", (0, 1, 2), trees + trees[:1]),
                      ("way", (), ()), ("short", (0, 1, 2, 3, 5)), ("way", way, trees, ())):
            self.assertIs(self.check(course, (), (4,), 5, value), False)

    def test_sets_that_are_avoided_and_wanted(self):
        course = Course(SHORT)
        for item in range(5):
            # The item itself may be avoided or wanted, and both sets may have the same item.
            self.assertIs(self.check(course, (0,), (0,), item, ("short", ())), True)
            self.assertIs(self.check(course, (3,), (4,), item, ("short", (0, 1, 2))), True)
            self.assertIs(self.check(course, (3,), (4,), item, ("short", (0, 1, 2, 3))), False)
            self.assertIs(self.check(course, (3,), (4,), item, ("short", (0, 1))), False)
            self.assertIs(self.check(course, (), (), item, ("short", (0, 1, 2, 3, 4))), False)
            self.assertIs(self.check(course, (0, 1, 2, 3, 4), (4,), item, ("short", ())), True)
            self.assertIs(self.check(course, (0, 1, 2, 3, 4), (), item, ("short", ())), False)
        self.assertIs(self.check(course, (0,), (), 0, ("way", (), ())), True)
        self.assertIs(self.check(course, (1,), (1,), 1, ("way", (0,), (("short", ()),))), True)
        # A way may contain an avoided item, if the branch for it is a tree all the same.
        self.assertIs(self.check(course, (0,), (4,), 1, ("way", (0,), (("short", ()),))), True)
        self.assertIs(self.check(course, (2,), (4,), 3, ("way", (2,), (("way", (1,), (("short", (0,)),)),))), True)

    def test_ways_that_are_left_out_of_the_tidy_form(self):
        course = Course((((),), ((),), ((0,), (0, 1))))
        self.assertIs(self.check(course, (), (0,), 2, ("way", (0,), (("short", (1,)),))), True)
        tree = ("way", (0, 1), (("short", (1,)), ("way", (0,), (("short", ()),))))
        self.assertIs(self.check(course, (), (0,), 2, tree), False)

    def test_deep_trees(self):
        course = Course(SHORT)
        for depth in (2, 10, 300, 5000):
            for end in ((0,), (), (0, 1), (1,), (False,), [0], (0, 3), None):
                tree = ("short", end)
                for place in range(depth):
                    tree = ("way", ((1,), (2,))[place & 1], (tree,))
                self.assertIs(is_tree(course, (), (4,), 3, tree), repr(end) == "(0,)")
                self.assertIs(is_tree(course, (), (4,), 4, tree), False)

    def test_other_values(self):
        rng = random.Random(415)
        for course in (Course(SHORT), Course.free(1), Course(((), ())), *courses(416, 2, 7)):
            n = len(course)
            for value in strange_values(course):
                for item in (0, n - 1):
                    self.assertIs(is_tree(course, (), (), item, value), value == ("way", (), ()) and () in course[item])
            for value in odd_values(course):
                tree = changed(rng, ("way", (0,), (("short", (0, 1)),)), course)
                self.check(course, (), (n - 1,), 0, ("short", value))
                self.check(course, (), (n - 1,), n - 1, ("way", (0,), (value,)))
                self.check(course, (), (n - 1,), n - 1, tree)


class TreesGrown(Checked):
    def test_narrow_ways_first(self):
        # By the way (4, 5) nothing has to be told apart: whoever knows 6 knows 4 and 5, but perhaps not 7.
        base = (((),), ((),), ((),), ((),), ((0, 1), (2, 3)), ((0,), (1,)), ((4, 5),), ((),))
        course = Course((*base, ((0, 2), (1, 3), (4, 5), (4, 7))))
        tree = tree_for((course.book,), course.book[8], mask_of((6,)), mask_of(tuple(range(9))), {})
        self.assertEqual(tree[1], (4, 5))
        self.assertEqual([part[0] for part in tree[2]], ["short", "short"])
        self.assertEqual(reach(course, (6,), (), 8), ("always", tree))


if __name__ == "__main__":
    unittest.main()
