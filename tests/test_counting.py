"""Promises 12, 15 and 80: states and orders of small courses, counted and numbered."""

import inspect
import random
from math import comb, factorial

from learnways.counting import number_of_orders, number_of_states, order_at, place_of, states
from learnways.courses import Course, without
from learnways.errors import NoOrder, NoPlace, TooMany
from learnways.orders import greatest, is_order
from tests.certificates import Checked, strange_values
from tests.models import SHORT, courses, greatest_by_words, layered, odd_values, orders_by_words, states_by_words


def sorted_states(ways):
    return sorted(states_by_words(ways), key=lambda state: (len(state), state))


def whole_orders(ways):
    """The orders of the greatest state, the first ones first."""
    orders = list(orders_by_words(ways))
    most = max(len(order) for order in orders)
    return sorted(order for order in orders if len(order) == most)


class Counting(Checked):
    def assert_too_many(self, limit, call, *passed):
        self.assertEqual(self.assert_raises_only(TooMany, call, *passed).limit, limit)


class StatesCounted(Counting):
    def check_states(self, course):
        expected = sorted_states(course.ways)
        self.assertEqual(list(states(course)), expected, course.ways)
        self.assertEqual(list(states(course)), expected)
        self.assertEqual(self.same_again(number_of_states, course), len(expected))
        for many in (1, 2, 5):
            beginning = [state for _, state in zip(range(many), states(course))]
            self.assertEqual(beginning, expected[:many])

    def test_small_courses(self):
        for course in [*courses(1, 150, 6), *layered(2, 100, 7)]:
            self.check_states(course)

    def test_twelve_items(self):
        for course in [*courses(3, 12, 12, 10), *layered(4, 12, 12, 10), Course.free(12), Course.chain(12)]:
            self.check_states(course)
        self.assertEqual(number_of_states(Course.free(12)), 4096)
        self.assertEqual(number_of_states(Course.chain(12)), 13)

    def test_examples(self):
        self.assertEqual(list(states(Course(SHORT))), [
            (), (0,), (0, 1), (0, 2), (0, 1, 2), (0, 1, 3), (0, 2, 3), (0, 1, 2, 3), (0, 1, 3, 4), (0, 2, 3, 4),
            (0, 1, 2, 3, 4),
        ])
        self.assertEqual(list(states(Course(((),)))), [()])
        self.assertEqual(list(states(Course((((),),)))), [(), (0,)])
        # By numbers, not by the letters of the numbers.
        singles = [state for state in states(Course.free(12)) if len(state) == 1]
        self.assertEqual(singles, [(item,) for item in range(12)])

    def test_two_generators_at_once(self):
        course = Course(SHORT)
        self.assertTrue(inspect.isgenerator(states(course)))
        one, other = states(course), states(Course.chain(5))
        self.assertEqual([next(one), next(other), next(one), next(other), next(one)], [(), (), (0,), (0,), (0, 1)])
        self.assertEqual(list(other), [(0, 1), (0, 1, 2), (0, 1, 2, 3), (0, 1, 2, 3, 4)])
        self.assertEqual(list(one), sorted_states(SHORT)[3:])
        self.assertEqual(list(one), [])

    def test_too_many(self):
        for course in (Course.free(13), Course.chain(13), Course(((),) * 13), *courses(5, 20, 24, 13)):
            self.assert_too_many(12, lambda: list(states(course)))
            self.assert_too_many(12, lambda: next(states(course)))
            self.assert_too_many(12, number_of_states, course)
            self.assert_too_many(12, number_of_orders, course)


class OrdersByNumber(Counting):
    def check_orders(self, course):
        expected = whole_orders(course.ways)
        self.assertEqual(self.same_again(number_of_orders, course), len(expected))
        for place, order in enumerate(expected):
            self.assertEqual(order_at(course, place), order, (course.ways, place))
            self.assertEqual(place_of(course, order), place, (course.ways, order))
        for place in (-1, len(expected), len(expected) + 1, 10 ** 11, -10 ** 11):
            self.assert_raises_only(NoPlace, order_at, course, place)

    def test_all_orders_of_small_courses(self):
        for course in [*courses(11, 120, 5), *layered(12, 60, 5), Course.free(5), Course.chain(5), Course(((),))]:
            self.check_orders(course)

    def test_examples(self):
        course = Course(SHORT)
        self.assertEqual(number_of_orders(course), 6)
        self.assertEqual([order_at(course, place) for place in range(6)], [
            (0, 1, 2, 3, 4), (0, 1, 3, 2, 4), (0, 1, 3, 4, 2), (0, 2, 1, 3, 4), (0, 2, 3, 1, 4), (0, 2, 3, 4, 1),
        ])
        self.assertEqual((number_of_orders(Course(((), ()))), order_at(Course(((), ())), 0)), (1, ()))
        self.assertEqual(place_of(Course(((), ())), ()), 0)

    def test_twelve_items(self):
        course = Course.free(12)
        self.assertEqual(number_of_orders(course), factorial(12))
        self.assertEqual(order_at(course, factorial(12) - 1), tuple(range(11, -1, -1)))
        self.assertEqual(order_at(course, factorial(11)), (1, 0, *range(2, 12)))
        self.assertEqual(place_of(course, (1, 0, *range(2, 12))), factorial(11))
        rng = random.Random(13)
        for course in [*courses(14, 15, 12, 10), *layered(15, 15, 12, 10)]:
            many = number_of_orders(course)
            before = None
            for place in sorted({0, many - 1, rng.randrange(many), rng.randrange(many)}):
                order = self.same_again(order_at, course, place)
                self.assertTrue(is_order(course, order))
                self.assertEqual(tuple(sorted(order)), greatest(course))
                self.assertEqual(self.same_again(place_of, course, order), place)
                self.assertTrue(before is None or before < order)
                before = order

    def test_refused(self):
        course = Course(SHORT)
        for value in [*odd_values(course), 6, -1, "1", 10 ** 11, (1,), [1]]:
            if type(value) is not int or not 0 <= value < 6:
                self.assert_raises_only(NoPlace, order_at, course, value)
        for value in [*odd_values(course), *strange_values(course), 0, [0, 1, 2, 3, 4], (False, 1, 2, 3, 4)]:
            self.assert_raises_only(NoOrder, place_of, course, value)
        for value in ((), (0,), (0, 1, 2, 3), (0, 3, 1, 2, 4), (1, 0, 2, 3, 4), (0, 1, 2, 3, 4, 4), (0, 1, 2, 3, 3)):
            self.assert_raises_only(NoOrder, place_of, course, value)
        # Orders of smaller states are orders, but have no number.
        for course in courses(16, 40, 4):
            whole = set(whole_orders(course.ways))
            for order in orders_by_words(course.ways):
                if order not in whole:
                    self.assert_raises_only(NoOrder, place_of, course, order)

    def test_too_many_comes_first(self):
        for course in (Course.free(13), Course.chain(24)):
            for value in (0, -1, None, True, "0", 10 ** 11):
                self.assert_too_many(12, order_at, course, value)
            for value in (tuple(range(len(course))), (), (0, 0), None, [0]):
                self.assert_too_many(12, place_of, course, value)


class SideBySide(Counting):
    """Promise 15 on sums, told by what is counted."""

    def test_sums(self):
        for one, other in zip(courses(21, 60, 4), courses(22, 60, 4)):
            both = one + other
            distance = len(one)
            first, second = sorted_states(one.ways), sorted_states(other.ways)
            expected = {state + tuple(q + distance for q in more) for state in first for more in second}
            self.assertEqual(list(states(both)), sorted(expected, key=lambda state: (len(state), state)))
            self.assertEqual(number_of_states(both), number_of_states(one) * number_of_states(other))
            one_size, other_size = len(greatest(one)), len(greatest(other))
            self.assertEqual(number_of_orders(both), number_of_orders(one) * number_of_orders(other)
                             * comb(one_size + other_size, one_size))
            low, high = tuple(range(distance)), tuple(range(distance, len(both)))
            self.assertEqual(greatest(both, high), greatest(one))
            self.assertEqual(greatest(both, low), tuple(q + distance for q in greatest(other)))
            for avoided in (low, high, low[:1], high[-1:], low[1:] + high[:1]):
                self.assertEqual(greatest(both, avoided), greatest_by_words(expected, avoided))
                self.assertEqual(greatest(without(both, avoided)), greatest(both, avoided))

    def test_sums_of_many_items(self):
        self.assertEqual(number_of_states(Course.free(6) + Course.chain(6)), 64 * 7)
        self.assertEqual(number_of_states(Course.chain(4) + Course.chain(4) + Course.chain(4)), 125)
        self.assertEqual(number_of_orders(Course.chain(6) + Course.chain(6)), comb(12, 6))
        self.assert_too_many(12, number_of_states, Course.chain(6) + Course.chain(7))


if __name__ == "__main__":
    import unittest
    unittest.main()
