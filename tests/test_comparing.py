"""Promises 60 and 61: comparisons of two courses and what shows them."""

import random
import unittest

from learnways.comparing import compared, is_comparison
from learnways.courses import Course
from learnways.errors import OtherCourse
from learnways.orders import is_order
from tests.certificates import (
    Checked, grown_tree, is_comparison_by_words, keeps_off_avoided, places, part_at, strange_values, variants, with_part,
)
from tests.models import (
    SHORT, books, courses, layered, odd_values, orders_by_words, random_ways, states_by_words,
)
from tests.test_comparing_signs import by_other_ways, spoilt


class Compared(Checked):
    def check(self, one, other):
        """What compared returns for two courses with few states; its word."""
        within = states_by_words(one.ways) <= states_by_words(other.ways)
        found = self.check_words(one, other)
        self.assertEqual(found[0], "within" if within else "not within")
        return found[0]

    def check_words(self, one, other):
        found = self.same_again(compared, one, other)
        self.assertTrue(is_comparison_by_words(one.ways, other.ways, found))
        self.assertIs(is_comparison(one, other, found), True)
        self.assertIs(one <= other, found[0] == "within")
        if found[0] == "within":
            for item, trees in enumerate(found[1]):
                for tree in trees:
                    self.assertTrue(keeps_off_avoided((item,), tree))
        else:
            self.assertTrue(is_order(one, found[1]) and is_order(other, found[1][:-1]))
            self.assertFalse(is_order(other, found[1]))
        return found

    def check_both(self, one, other):
        words = self.check(one, other), self.check(other, one)
        if words[0] != words[1]:
            self.assertIs(is_comparison(other, one, compared(one, other)), False)
            self.assertIs(is_comparison(one, other, compared(other, one)), False)
        return words

    def test_any_two_courses(self):
        rng = random.Random(601)
        words = []
        for ways in books(602, 400, 7):
            words += self.check_both(Course(ways), Course(random_ways(rng, len(ways))))
        for word in ("within", "not within"):
            self.assertGreater(words.count(word), 80)

    def test_courses_that_differ_in_one_way(self):
        rng = random.Random(603)
        words = []
        for one in courses(604, 200, 7) + layered(604, 300, 7):
            words += self.check_both(one, Course(spoilt(rng, one.ways)))
        for word in ("within", "not within"):
            self.assertGreater(words.count(word), 200)

    def test_same_states_by_other_ways(self):
        rng = random.Random(605)
        branching = 0
        for one in courses(606, 150, 7) + layered(606, 250, 7):
            other = Course(by_other_ways(rng, one.ways, 4))
            self.assertEqual(self.check_both(one, other), ("within", "within"))
            branching += max(map(len, places(compared(one, other)))) > 8
            self.check_both(one, Course(spoilt(rng, other.ways)))
        self.assertGreater(branching, 10)

    def test_joined_courses(self):
        rng = random.Random(607)
        for one in layered(608, 80, 6):
            other = Course(random_ways(rng, len(one)))
            self.assertEqual(self.check(one & other, one), "within")
            self.assertEqual(self.check(other, one | other), "within")
            self.check(one | other, other)
            self.check(one, one & other)

    def test_large_courses(self):
        rng = random.Random(609)
        words = []
        for one in courses(610, 10, 24, 18) + layered(610, 20, 24, 18):
            other = Course(by_other_ways(rng, one.ways, 15))
            self.assertEqual(self.check_words(one, other)[0], "within")
            self.assertEqual(self.check_words(other, one)[0], "within")
            words.append(self.check_words(one, Course(spoilt(rng, other.ways)))[0])
            words.append(self.check_words(one, Course(random_ways(rng, len(one))))[0])
        self.assertGreater(words.count("not within"), 10)

    def test_examples(self):
        course = Course(SHORT)
        self.assertEqual(compared(course, Course.chain(5)), ("not within", (0, 2)))
        self.assertEqual(compared(Course.chain(2), Course.free(2)), (
            "within", ((("way", (), ()),), (("way", (), ()),))))
        self.assertEqual(compared(Course.chain(2), Course.chain(2)), (
            "within", ((("way", (), ()),), (("way", (0,), (("short", ()),)),))))
        self.assertEqual(compared(Course(((),)), Course(((),))), ("within", ((),)))
        self.assertEqual(compared(Course(((),)), Course(((),),)), ("within", ((),)))
        self.assertEqual(compared(Course((((),),)), Course(((),))), ("not within", (0,)))
        self.assertEqual(compared(Course((((1,),), ((0,),))), Course(((), ()))), (
            "within", ((("short", ()),), (("short", ()),))))

    def test_other_lengths(self):
        course = Course(SHORT)
        for n in range(1, 25):
            if n != 5:
                for value in (None, (), ("within", ())):
                    self.assert_raises_only(OtherCourse, is_comparison, course, Course.free(n), value)
                    self.assert_raises_only(OtherCourse, is_comparison, Course.free(n), course, value)
                self.assert_raises_only(OtherCourse, compared, course, Course.free(n))
                self.assert_raises_only(OtherCourse, compared, Course.chain(n), course)


class ComparisonsKnown(Checked):
    def check(self, one, other, value):
        expected = is_comparison_by_words(one.ways, other.ways, value)
        self.assertIs(is_comparison(one, other, value), expected, (one.ways, other.ways, value))
        return expected

    def pairs(self, seed, many):
        rng = random.Random(seed)
        for one in courses(seed + 1, many // 2, 6) + layered(seed + 1, many // 2, 7):
            kind = rng.randrange(3)
            other = Course(random_ways(rng, len(one)) if kind == 0 else by_other_ways(rng, one.ways, 3))
            yield rng, one, other | one if kind == 0 else other

    def test_orders(self):
        rng = random.Random(620)
        for ways in books(621, 60, 4):
            one, other = Course(ways), Course(random_ways(rng, len(ways)))
            rows = list(orders_by_words(one.ways)) + list(orders_by_words(other.ways))
            rows += [(*row, rng.randrange(len(one))) for row in rows]
            rows += [row[1:] for row in rows]
            for row in rows:
                self.check(one, other, ("not within", row))
                self.check(other, one, ("not within", row))
                self.check(one, other, ("not within", list(row)))
                self.check(one, other, ["not within", row])
                self.check(one, other, ("within", row))
                self.check(one, other, ("not within", row, ()))

    def test_changed_comparisons(self):
        good = []
        for rng, one, other in self.pairs(623, 250):
            for left, right in ((one, other), (other, one)):
                value = compared(left, right)
                for changed in variants(rng, value, one, 12):
                    good += [value[0]] * self.check(left, right, changed)
                    self.check(right, left, changed)
        self.assertGreater(good.count("within"), 300)
        self.assertGreater(good.count("not within"), 30)

    def test_grown_trees(self):
        good = []
        for rng, one, other in self.pairs(626, 400):
            depth = rng.randint(0, 3)
            trees = tuple(
                tuple(grown_tree(rng, (one.ways, other.ways), other[item], {item}, way, depth) for way in one[item])
                for item in range(len(one))
            )
            good.append(self.check(one, other, ("within", trees)))
            self.check(other, one, ("within", trees))
            found = compared(one, other)
            if found[0] == "within":
                # One tree at a time, so that the others do not spoil it.
                for item, entry in enumerate(trees):
                    for place, tree in enumerate(entry):
                        value = with_part(found, (1, item, place), [tree])
                        good.append(self.check(one, other, value))
        self.assertGreater(min(good.count(True), good.count(False)), 150)

    def test_trees_exchanged(self):
        for rng, one, other in self.pairs(629, 100):
            value = compared(one, other)
            paths = [path for path in places(value) if len(path) == 3]
            for path in paths[:12]:
                for source in rng.sample(paths, min(3, len(paths))):
                    self.check(one, other, with_part(value, path, [part_at(value, source)]))
                self.check(one, other, with_part(value, path, []))
                self.check(one, other, with_part(value, path, [part_at(value, path)] * 2))

    def test_closed_in_either_course(self):
        one = Course((((),), ((0,),), ((1,),)))
        other = Course((((),), ((2,),), ((1,),)))
        # Items 1 and 2 are in no common order: each of the courses stops one of them.
        value = ("within", ((("way", (), ()),), (("way", (2,), (("short", (0,)),)),), (("short", (0,)),)))
        self.assertIs(self.check(one, other, value), False)
        self.assertIs(self.check(other, one, ("not within", (0, 1))), False)
        self.assertEqual(compared(one, other), ("not within", (0, 1)))
        self.assertEqual(compared(other, one), ("within", (
            (("way", (), ()),), (("short", (0,)),), (("short", (0,)),))))
        for closed in ((), (0, 1), (0, 2), (1, 2), (0, 1, 2)):
            for place in (1, 2):
                trees = [(("way", (), ()),), (("short", (0,)),), (("short", (0,)),)]
                trees[place] = (("short", closed),)
                self.check(other, one, ("within", tuple(trees)))

    def test_deep_trees(self):
        course = Course(SHORT)
        found = compared(course, course)
        for depth in (1, 10, 5000):
            for end in ((0, 1), (0,), (), (0, 2), (0, 1, 2), [0, 1]):
                tree = ("short", end)
                for _ in range(depth):
                    tree = ("way", (2,), (tree,))
                value = with_part(found, (1, 3, 1), [tree])
                self.assertIs(is_comparison(course, course, value), end == (0, 1))

    def test_other_values(self):
        for one, other in ((Course(SHORT), Course.chain(5)), (Course.free(1), Course.free(1)),
                           (Course(((), ())), Course.free(2))):
            found = compared(one, one)
            paths = [path for path in places(found) if path]
            for value in strange_values(one):
                self.check(one, other, value)
                self.check(other, one, value)
            for value in odd_values(one):
                for path in paths:
                    self.check(one, one, with_part(found, path, [value]))
                    self.check(one, one, with_part(found, path, [part_at(found, path), value]))


if __name__ == "__main__":
    unittest.main()
