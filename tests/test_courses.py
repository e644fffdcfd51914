"""Promises 2, 3, 10, 11, 15 and 16: courses made, refused, joined and lessened."""

import random
import unittest

from learnways.courses import Course, after, without
from learnways.errors import LearnError, NoCourse, NoItem, NoSet, NoState, OtherCourse
from tests.models import SHORT, all_sets, books, courses, odd_values, states_by_words, tidy_by_words


class Refusing(unittest.TestCase):
    def assert_raises_only(self, error, call, *passed):
        with self.assertRaises(error) as caught:
            call(*passed)
        self.assertIs(type(caught.exception), error)
        self.assertIsInstance(caught.exception, LearnError)
        self.assertIsInstance(caught.exception, ValueError)


class Made(Refusing):
    def check_made(self, ways):
        copy = eval(repr(ways))
        course = Course(ways)
        tidied = tuple(tidy_by_words(entry) for entry in ways)
        self.assertEqual(course.ways, tidied)
        self.assertIs(type(course.ways), tuple)
        self.assertEqual(len(course), len(ways))
        self.assertEqual(list(course), list(tidied))
        self.assertEqual([course[item] for item in range(len(ways))], list(tidied))
        self.assertEqual(repr(course), f"Course({len(ways)} items, {sum(map(len, tidied))} ways)")
        self.assertEqual(ways, copy)
        self.assertEqual(Course(tidied).ways, tidied)
        return course

    def test_books_of_all_kinds(self):
        for ways in [*books(1, 400, 12), *books(2, 60, 24, 12)]:
            with self.subTest(ways=ways):
                self.check_made(ways)

    def test_edges(self):
        for ways in (
            ((),), (((),),), (((), ()),), ((), ()), (((1,), ()), ()), (((1, 2), (1,), (2,), (1, 2)), (), ()),
            (((2, 3), (1, 2, 3), (1, 4), (1, 2), (3,), (4,)), (), (), (), ()),
            tuple(((),) for _ in range(24)), tuple(() for _ in range(24)),
        ):
            with self.subTest(ways=ways):
                self.check_made(ways)

    def test_tidy_form_of_an_example(self):
        ways = (((3, 4), (2,), (1, 3, 4), (2,), (1, 4), (2, 4), (1, 3)), (), (), (), ())
        self.assertEqual(Course(ways)[0], ((2,), (1, 3), (1, 4), (3, 4)))
        self.assertEqual(Course(((tuple(range(10, 24)), (1, 10), (2, 3, 4), (1, 9)),) + ((),) * 23)[0],
                         ((1, 9), (1, 10), (2, 3, 4), tuple(range(10, 24))))

    def test_more_and_longer_ways_than_callers_pass(self):
        pairs = tuple((one, other) for one in range(1, 24) for other in range(one + 1, 24))
        self.assertEqual(Course((pairs,) + ((),) * 23)[0], pairs)
        self.assertEqual(Course((pairs[::-1],) + ((),) * 23)[0], pairs)

    def test_repr_has_the_same_words_for_all_numbers(self):
        self.assertEqual(repr(Course(SHORT)), "Course(5 items, 6 ways)")
        self.assertEqual(repr(Course((((),),))), "Course(1 items, 1 ways)")
        self.assertEqual(repr(Course(((),))), "Course(1 items, 0 ways)")

    def test_two_courses_by_turns(self):
        one, other = Course(SHORT), Course((((1,),), ((),)))
        for _ in range(2):
            self.assertEqual((one.ways, len(one), one[3]), (SHORT, 5, ((1,), (2,))))
            self.assertEqual((other.ways, len(other), other[0]), ((((1,),), ((),)), 2, ((1,),)))
            self.assertEqual((repr(one), repr(other)), ("Course(5 items, 6 ways)", "Course(2 items, 2 ways)"))

    def test_nested_iteration(self):
        course = Course(SHORT)
        self.assertEqual([(a, b) for a in course for b in course], [(a, b) for a in SHORT for b in SHORT])

    def test_ways_cannot_be_assigned(self):
        with self.assertRaises(AttributeError):
            Course(SHORT).ways = ()

    def test_free_and_chain(self):
        self.assertEqual(Course.MOST, 24)
        for n in range(1, 25):
            self.assertEqual(Course.free(n).ways, (((),),) * n)
            self.assertEqual(Course.chain(n).ways, (((),),) + tuple(((item,),) for item in range(n - 1)))
            self.assertIs(type(Course.free(n)), Course)
            self.assertIs(type(Course.chain(n)), Course)


class Refused(Refusing):
    def test_one_thing_spoilt(self):
        rng = random.Random(3)
        for ways in books(4, 300, 12, 2):
            Course(ways)
            for bad in self.spoilt(rng, ways):
                with self.subTest(bad=bad):
                    self.assert_raises_only(NoCourse, Course, bad)

    def spoilt(self, rng, ways):
        n = len(ways)
        item = rng.randrange(n)
        entry, others = ways[item], [other for other in range(n) if other != item]
        first = rng.choice(others)

        def put(new):
            return (*ways[:item], new, *ways[item + 1:])

        yield from (list(ways), None, "", {}, Course(ways), put(list(entry)), put(None), put(0), put({}), put("ab"))
        yield from (put(True), put((*entry[:2], None)), put((0,)), put(Course(ways)))
        for way in (
            [], [first], (item,), (n,), (-1,), (first, first), (True,), (False,), (None,), ("0",), ((first,),), ([],),
            10 ** 11, True, None, "", "01", {}, {first: True}, (10 ** 11,), (-10 ** 11,), tuple(sorted({item, first})),
            (first, n), (-1, first),
        ):
            place = rng.randint(0, len(entry))
            yield put((*entry[:place], way, *entry[place:]))
        if len(others) > 1:
            yield put(entry + (tuple(sorted(rng.sample(others, 2), reverse=True)),))

    def test_numbers_of_items(self):
        self.assert_raises_only(NoCourse, Course, ())
        self.assert_raises_only(NoCourse, Course, (((),),) * 25)
        self.assert_raises_only(NoCourse, Course, ((),) * 30)
        self.assertEqual(len(Course((((),),) * 24)), 24)

    def test_bools_are_no_items_of_ways(self):
        self.assertEqual(Course(((), ((0,),))).ways, ((), ((0,),)))
        self.assert_raises_only(NoCourse, Course, ((), ((False,),)))
        self.assert_raises_only(NoCourse, Course, (((True,),), ()))

    def test_item_in_its_own_way_behind_others(self):
        self.assert_raises_only(NoCourse, Course, ((), (), ((0, 1), (0, 1, 2))))

    def test_items_by_odd_values(self):
        for course in courses(5, 20, 24):
            for value in odd_values(course):
                if value != 0 and not (type(value) is int and 0 <= value < len(course)):
                    self.assert_raises_only(NoItem, course.__getitem__, value)
            self.assert_raises_only(NoItem, course.__getitem__, -1)
            self.assert_raises_only(NoItem, course.__getitem__, len(course))
            self.assert_raises_only(NoItem, course.__getitem__, False)
            course[0], course[len(course) - 1]

    def test_free_and_chain_of_odd_values(self):
        for value in (0, -1, 25, 26, 10 ** 11, True, False, None, "3", (3,), [3], {}, Course.free(3)):
            self.assert_raises_only(NoCourse, Course.free, value)
            self.assert_raises_only(NoCourse, Course.chain, value)


class Joined(Refusing):
    def pairs(self, seed, many, most):
        rng = random.Random(seed)
        for one in courses(seed, many, most):
            n = len(one)
            yield one, courses(rng.random(), 1, n, n)[0]

    def test_and_or(self):
        for one, other in [*self.pairs(6, 200, 8), *self.pairs(7, 10, 24)]:
            before = one.ways, other.ways
            both = tuple(
                tidy_by_words([tuple(sorted({*left, *right})) for left in one[item] for right in other[item]])
                for item in range(len(one))
            )
            either = tuple(tidy_by_words(one[item] + other[item]) for item in range(len(one)))
            self.assertEqual((one & other).ways, both)
            self.assertEqual((one | other).ways, either)
            self.assertEqual((one.ways, other.ways), before)
            self.assertIs(type(one & other), Course)

    def test_plus(self):
        for one, other in zip(courses(8, 150, 12), courses(9, 150, 12)):
            before = one.ways, other.ways
            shifted = tuple(tuple(tuple(q + len(one) for q in way) for way in entry) for entry in other.ways)
            self.assertEqual((one + other).ways, one.ways + shifted)
            self.assertEqual((one.ways, other.ways), before)

    def test_plus_up_to_the_most_items(self):
        self.assertEqual((Course.chain(12) + Course.free(12)).ways, Course.chain(12).ways + Course.free(12).ways)
        self.assertEqual((Course.free(23) + Course.chain(1)).ways, Course.free(24).ways)
        self.assertEqual((Course.free(1) + Course.chain(2))[2], ((1,),))
        for many, more in ((12, 13), (24, 1), (1, 24), (24, 24)):
            with self.assertRaises(OtherCourse) as caught:
                Course.free(many) + Course.free(more)
            self.assertIs(type(caught.exception), OtherCourse)

    def test_other_values(self):
        course = Course(SHORT)
        for value in [*odd_values(course), SHORT, course.ways, 0, ()]:
            for join in (lambda one, other: one & other, lambda one, other: one | other, lambda one, other: one + other):
                self.assert_raises_only(OtherCourse, join, course, value)

    def test_courses_of_other_lengths(self):
        for value in (Course.free(4), Course.free(6), Course.chain(24)):
            self.assert_raises_only(OtherCourse, lambda: Course(SHORT) & value)
            self.assert_raises_only(OtherCourse, lambda: Course(SHORT) | value)

    def test_results_are_joined_again(self):
        for one, other in self.pairs(10, 30, 5):
            wide = (one | other) & (other | one) & one
            self.assertEqual((wide | other).ways, tuple(
                tidy_by_words(wide[item] + other[item]) for item in range(len(one))))
            self.assertEqual((wide + one).ways[:len(one)], wide.ways)


class Lessened(Refusing):
    def test_after(self):
        for course in courses(11, 60, 6):
            before = course.ways
            for state in states_by_words(course.ways):
                expected = tuple(
                    () if item in state else tidy_by_words([tuple(q for q in way if q not in state) for way in entry])
                    for item, entry in enumerate(course.ways)
                )
                self.assertEqual(after(course, state).ways, expected)
            self.assertEqual(course.ways, before)

    def test_without(self):
        for course in courses(12, 60, 6):
            before = course.ways
            for items in all_sets(len(course)):
                expected = tuple(() if q in items else entry for q, entry in enumerate(course.ways))
                self.assertEqual(without(course, items).ways, expected)
            self.assertEqual(course.ways, before)

    def test_example(self):
        course = Course(SHORT)
        self.assertEqual(after(course, (0, 1)).ways, ((), (), ((),), ((),), ((3,),)))
        self.assertEqual(without(course, (1, 4)).ways, (((),), (), ((0,),), ((1,), (2,)), ()))
        self.assertEqual(after(course, ()), course)
        self.assertEqual(without(course, ()).ways, course.ways)

    def test_no_states(self):
        course = Course(SHORT)
        for value in [*odd_values(course), (1,), (0, 3), (4,), 0, [0], [0, 1]]:
            self.assert_raises_only(NoState, after, course, value)

    def test_no_sets(self):
        course = Course(SHORT)
        for value in [*odd_values(course), 0, [0], [0, 1]]:
            self.assert_raises_only(NoSet, without, course, value)


if __name__ == "__main__":
    unittest.main()
