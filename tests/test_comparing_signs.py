"""Promise 14: the six comparisons."""

import random
import unittest
from itertools import product

from learnways.courses import Course, without
from tests.models import SHORT, books, courses, odd_values, random_way, random_ways, states_by_words


def by_other_ways(rng, ways, turns):
    """Other ways with the same states: a way grows by all ways of one of its items, one after the other."""
    ways = [list(entry) for entry in ways]
    for _ in range(turns):
        item = rng.randrange(len(ways))
        longer = [way for way in ways[item] if way]
        if longer:
            way = rng.choice(longer)
            needed = rng.choice(way)
            ways[item].remove(way)
            ways[item] += [tuple(sorted({*way, *more})) for more in ways[needed] if item not in more]
    return tuple(tuple(entry) for entry in ways)


def spoilt(rng, ways):
    """The ways with one way less, one item less in a way, or one more."""
    item = rng.randrange(len(ways))
    entry = list(ways[item])
    if entry:
        way = entry.pop(rng.randrange(len(entry)))
        others = [q for q in range(len(ways)) if q != item]
        kind = rng.randrange(3)
        if kind == 1 and way:
            entry.append(tuple(q for q in way if q != rng.choice(way)))
        if kind == 2 and others:
            entry.append(tuple(sorted({*way, rng.choice(others)})))
    return (*ways[:item], tuple(entry), *ways[item + 1:])


def random_lower_ways(rng, n):
    """One or two short ways of lower items for each item."""
    return tuple(
        tuple(random_way(rng, list(range(item)), 2) for _ in range(rng.randint(1, 2))) for item in range(n)
    )


def random_pairs(rng, n):
    """One to four ways of one to three of n items."""
    return tuple(tuple(sorted(rng.sample(range(n), rng.randint(1, 3)))) for _ in range(rng.randint(1, 4)))


class Comparing(unittest.TestCase):
    def check(self, one, other, first, second):
        """first and second are the states of one and other."""
        expected = {
            "<=": first <= second, "<": first < second, ">=": first >= second, ">": first > second,
            "==": first == second, "!=": first != second,
        }
        found = {
            "<=": one <= other, "<": one < other, ">=": one >= other, ">": one > other, "==": one == other,
            "!=": one != other,
        }
        self.assertEqual(found, expected, (one.ways, other.ways))
        self.assertEqual({type(answer) for answer in found.values()}, {bool})

    def check_ways(self, one, other):
        self.check(Course(one), Course(other), states_by_words(one), states_by_words(other))

    def test_all_courses_with_two_items(self):
        entries = [
            [(), ((),), ((other,),)] for other in (1, 0)
        ]
        for one in product(*entries):
            for other in product(*entries):
                self.check_ways(one, other)

    def test_any_two_courses(self):
        rng = random.Random(21)
        for one in books(22, 700, 6):
            self.check_ways(one, random_ways(rng, len(one)))

    def test_near_courses(self):
        rng = random.Random(23)
        for one in books(24, 700, 7):
            self.check_ways(one, spoilt(rng, one))

    def test_courses_that_differ_at_one_item(self):
        rng = random.Random(32)
        answers = []
        for _ in range(1500):
            shared = random_lower_ways(rng, rng.randint(3, 6))
            one, other = (shared + (random_pairs(rng, len(shared)),) for _ in range(2))
            self.check_ways(one, other)
            answers.append(Course(one) <= Course(other))
        self.assertGreater(min(answers.count(True), answers.count(False)), 200)

    def test_second_item_of_a_way_is_the_one_that_can_be_lacking(self):
        shared = (((),), ((),), ((0,),), ((0,), (1,)))
        for one, other in ((((2,),), ((0, 1),)), (((3,),), ((0, 1),)), (((2, 3),), ((0, 1), (1, 2)))):
            self.check_ways(shared + (one,), shared + (other,))
            self.assertFalse(Course(shared + (one,)) <= Course(shared + (other,)))

    def test_same_states_by_other_ways(self):
        rng = random.Random(25)
        different = 0
        for one in books(26, 500, 7):
            other = by_other_ways(rng, one, 4)
            self.check_ways(one, other)
            self.assertTrue(Course(one) == Course(other))
            different += Course(one).ways != Course(other).ways
            self.check_ways(spoilt(rng, other), one)
        self.assertGreater(different, 50)

    def test_joined_courses(self):
        rng = random.Random(27)
        for one in books(28, 200, 5):
            other = random_ways(rng, len(one))
            first, second = Course(one), Course(other)
            self.check(first & second, first, states_by_words((first & second).ways), states_by_words(one))
            self.check(second, first | second, states_by_words(other), states_by_words((first | second).ways))
            self.assertTrue(first & second <= first <= first | second)

    def test_example(self):
        course = Course(SHORT)
        self.assertTrue(without(course, (1,)) < course)
        self.assertTrue(course > Course.chain(5))
        self.assertTrue(Course.chain(5) < Course.free(5))
        self.assertTrue(course == Course(SHORT[:4] + (((0, 3),),)))
        self.assertTrue(course == Course(SHORT[:4] + (((1, 3), (2, 3)),)))
        self.assertTrue(course != Course(SHORT[:4] + (((1, 3),),)))

    def test_items_in_no_state_have_any_ways(self):
        self.assertTrue(Course((((1,),), ((0,),))) == Course(((), ())))
        self.assertTrue(Course((((1,),), (), ((),))) == Course(((), ((0, 2),), ((),))))

    def test_large_courses(self):
        rng = random.Random(29)
        for one in books(30, 15, 24, 20):
            course = Course(one)
            other = Course(by_other_ways(rng, course.ways, 25))
            self.assertTrue(course == other and other == course and course <= other and course >= other)
            self.assertFalse(course < other or course > other or course != other)
            self.assertTrue(without(course, (0,)) <= course)
        self.assertTrue(Course.chain(24) < Course.free(24))
        self.assertFalse(Course.free(24) <= Course.chain(24))

    def test_other_lengths_and_other_values(self):
        for course in courses(31, 30, 24):
            longer = Course(course.ways[:23] + ((),))
            values = [*odd_values(course), course.ways, repr(course)]
            values += [other for other in (longer, Course.free(1), Course.chain(24)) if len(other) != len(course)]
            for value in values:
                self.assertIs(course == value, False)
                self.assertIs(course != value, True)
                self.assertIs(value == course, False)
                self.assertIs(value != course, True)
        self.assertFalse(Course(((),)) == Course(((), ())))


if __name__ == "__main__":
    unittest.main()
