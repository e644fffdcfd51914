"""Promises 10, 12, 13, 20 and 30 to 33: orders and states."""

import random
import unittest
from itertools import permutations, product

from learnways.courses import Course, after, without
from learnways.errors import LearnError, NoItem, NoSet, NoState
from learnways.orders import greatest, is_order, is_state, lasts, order_of, plan, ready, state_of, way_to
from tests.models import (
    SHORT, all_sets, courses, greatest_by_words, is_order_by_words, odd_values, orders_by_words, random_ways,
    ready_by_words, states_by_words,
)


class Orders(unittest.TestCase):
    def assert_raises_only(self, error, call, *passed):
        with self.assertRaises(error) as caught:
            call(*passed)
        self.assertIs(type(caught.exception), error)
        self.assertIsInstance(caught.exception, LearnError)
        self.assertIsInstance(caught.exception, ValueError)


class Known(Orders):
    def test_all_rows_of_items(self):
        for course in courses(41, 60, 4):
            n = len(course)
            for size in range(n + 2):
                for row in product(range(n), repeat=size):
                    answer = is_order(course, row)
                    self.assertIs(answer, is_order_by_words(course.ways, row), (course.ways, row))
                    self.assertIs(is_order(course, row), answer)

    def test_orders_are_the_grown_ones(self):
        for course in courses(42, 40, 5):
            grown = set(orders_by_words(course.ways))
            rows = {row for size in range(len(course) + 1) for row in permutations(range(len(course)), size)}
            self.assertEqual({row for row in rows if is_order(course, row)}, grown)

    def test_changed_orders_of_long_courses(self):
        rng = random.Random(43)
        for course in courses(44, 150, 24, 8):
            order = list(order_of(course, greatest(course)))
            rows = [order, order[:-1], order[1:], order + order[:1], order + [0], order[::-1], [*order, len(course)]]
            for _ in range(10):
                row = list(order)
                if row:
                    row[rng.randrange(len(row))] = rng.randrange(len(course))
                row.insert(rng.randint(0, len(row)), rng.randrange(len(course)))
                rows += [row, row[:-1]]
            for row in rows:
                expected = all(q < len(course) for q in row) and is_order_by_words(course.ways, row)
                self.assertIs(is_order(course, tuple(row)), expected)
                self.assertIs(is_order(course, row), False)

    def test_other_values_are_no_orders(self):
        course = Course.free(5)
        for value in odd_values(course):
            if value != (1, 0):
                self.assertIs(is_order(course, value), False, value)
        self.assertIs(is_order(course, (1, 0)), True)
        self.assertIs(is_order(course, (4, True)), False)
        self.assertIs(is_order(course, (2, 3, 2)), False)
        self.assertIs(is_order(course, ()), True)

    def test_all_sets_and_rows(self):
        for course in courses(45, 80, 6):
            states = states_by_words(course.ways)
            self.assertEqual(states, {tuple(sorted(order)) for order in orders_by_words(course.ways)})
            for items in all_sets(len(course)):
                self.assertIs(items in course, items in states)
                self.assertIs(is_state(course, items), items in states)
                self.assertIs(list(items) in course, False)
                if items:
                    self.assertIs((*items, items[0]) in course, False)
                    self.assertIs(is_state(course, (items[0], *items)), False)
                if len(items) > 1:
                    self.assertIs(items[::-1] in course, False)

    def test_other_values_are_no_states(self):
        for course in courses(46, 20, 24):
            for value in odd_values(course):
                self.assertIs(value in course, False, value)
                self.assertIs(is_state(course, value), False, value)
            self.assertIs(() in course, True)
            self.assertIs(is_state(course, ()), True)

    def test_two_courses_by_turns(self):
        one, other = Course(SHORT), Course((((),), ((2,),), ((),), (), ((0, 1),)))
        for items in [*all_sets(5), *all_sets(5)]:
            self.assertIs(items in one, items in states_by_words(one.ways))
            self.assertIs(items in other, items in states_by_words(other.ways))

    def test_item_that_nothing_leads_to(self):
        course = Course(((), ((),), ((0,),), ((4,),), ((3,),)))
        self.assertEqual([items for items in all_sets(5) if items in course], [(), (1,)])


class First(Orders):
    def test_least_items_first(self):
        for course in courses(51, 50, 5):
            for state in states_by_words(course.ways):
                first = min(row for row in orders_by_words(course.ways) if tuple(sorted(row)) == state)
                self.assertEqual(order_of(course, state), first)

    def test_long_courses(self):
        for course in courses(52, 100, 24, 10):
            state = greatest(course)
            order = order_of(course, state)
            self.assertEqual(tuple(sorted(order)), state)
            for place, item in enumerate(order):
                possible = [q for q in ready_by_words(course.ways, order[:place]) if q in state]
                self.assertEqual(item, possible[0])

    def test_examples(self):
        self.assertEqual(order_of(Course(SHORT), (0, 2, 3)), (0, 2, 3))
        self.assertEqual(order_of(Course((((2,),), ((0,),), ((),))), (0, 1, 2)), (2, 0, 1))
        self.assertEqual(order_of(Course(SHORT), ()), ())

    def test_no_states(self):
        course = Course(SHORT)
        for value in [*odd_values(course), (1,), (0, 3), (0, 4), 0, [0], [0, 1]]:
            for call in (order_of, ready, lasts):
                self.assert_raises_only(NoState, call, course, value)


class ReadyAndLast(Orders):
    def test_over_all_states(self):
        for course in courses(61, 80, 6):
            states = states_by_words(course.ways)
            for state in states:
                self.assertEqual(ready(course, state), ready_by_words(course.ways, state))
                less = tuple(q for q in state if tuple(p for p in state if p != q) in states)
                self.assertEqual(lasts(course, state), less)

    def test_states_are_left_and_entered_again(self):
        for course in courses(62, 60, 7):
            for state in states_by_words(course.ways):
                last = lasts(course, state)
                self.assertEqual(bool(last), bool(state))
                for item in last:
                    less = tuple(q for q in state if q != item)
                    self.assertIn(less, course)
                    self.assertIn(item, ready(course, less))
                for item in state:
                    less = tuple(q for q in state if q != item)
                    within = greatest(course, tuple(q for q in range(len(course)) if q not in less))
                    self.assertEqual(item in last, within == less)

    def test_unions_and_growing(self):
        for course in courses(63, 30, 5):
            states = sorted(states_by_words(course.ways))
            for one in states:
                for other in states:
                    self.assertIn(tuple(sorted({*one, *other})), course)
                    if set(one) < set(other):
                        self.assertTrue(set(ready(course, one)) & set(other))

    def test_examples(self):
        course = Course(SHORT)
        self.assertEqual(ready(course, (0, 2)), (1, 3))
        self.assertEqual(ready(course, ()), (0,))
        self.assertEqual(ready(course, (0, 1, 2, 3, 4)), ())
        self.assertEqual(lasts(course, (0, 1, 2, 3)), (1, 2, 3))
        self.assertEqual(lasts(course, (0, 1, 3)), (3,))
        self.assertEqual(lasts(course, ()), ())


class Greatest(Orders):
    def test_all_avoided_sets(self):
        for course in courses(71, 80, 6):
            states = states_by_words(course.ways)
            for avoided in all_sets(len(course)):
                self.assertEqual(greatest(course, avoided), greatest_by_words(states, avoided))
            self.assertEqual(greatest(course), greatest_by_words(states, ()))

    def test_sixteen_items(self):
        rng = random.Random(72)
        for course in courses(73, 12, 16, 12):
            states = states_by_words(course.ways)
            for _ in range(20):
                avoided = tuple(sorted(rng.sample(range(len(course)), rng.randint(0, 4))))
                self.assertEqual(greatest(course, avoided), greatest_by_words(states, avoided))

    def test_same_as_without(self):
        for course in courses(74, 40, 24, 10):
            for avoided in ((), (0,), (1, 5), tuple(range(0, len(course), 3)), tuple(range(len(course)))):
                self.assertEqual(greatest(course, avoided), greatest(without(course, avoided)))

    def test_no_sets(self):
        course = Course(SHORT)
        for value in [*odd_values(course), 0, [0], [0, 1]]:
            self.assert_raises_only(NoSet, greatest, course, value)
            self.assert_raises_only(NoSet, state_of, course, value)


class StateOf(Orders):
    def test_all_sets(self):
        for course in courses(81, 80, 6):
            found = {}
            for state in states_by_words(course.ways):
                self.assertNotIn(ready_by_words(course.ways, state), found)
                found[ready_by_words(course.ways, state)] = state
            for items in all_sets(len(course)):
                self.assertEqual(state_of(course, items), found.get(items))

    def test_examples(self):
        course = Course(SHORT)
        self.assertEqual(state_of(course, (1, 3)), (0, 2))
        self.assertEqual(state_of(course, ()), (0, 1, 2, 3, 4))
        self.assertIsNone(state_of(course, (0, 1)))
        self.assertEqual(state_of(course, (0,)), ())


class WayTo(Orders):
    def by_words(self, course, gate, item):
        states = states_by_words(course.ways)
        if all(set(state) & set(gate) for state in states if item in state):
            return None
        whole = order_of(course, greatest_by_words(states, gate))
        needed, fresh = {item}, [item]
        while fresh:
            step = fresh.pop()
            ahead = whole[:whole.index(step)]
            way = next(way for way in course[step] if set(way) <= set(ahead))
            fresh += [q for q in way if q not in needed]
            needed |= set(way)
        return tuple(q for q in whole if q in needed)

    def test_all_gates_and_items(self):
        for course in courses(91, 70, 5):
            for gate in all_sets(len(course)):
                for item in range(len(course)):
                    if item not in gate:
                        found = way_to(course, gate, item)
                        self.assertEqual(found, self.by_words(course, gate, item), (course.ways, gate, item))

    def test_long_courses(self):
        for course in courses(92, 60, 24, 10):
            for item in range(len(course)):
                gate = tuple(q for q in range(1, len(course), 7) if q != item)
                order = way_to(course, gate, item)
                if order is None:
                    self.assertNotIn(item, greatest(course, gate))
                else:
                    self.assertTrue(is_order_by_words(course.ways, order))
                    self.assertEqual(order[-1], item)
                    self.assertFalse(set(order) & set(gate))

    def test_examples(self):
        course = Course(SHORT)
        self.assertEqual(way_to(course, (1,), 4), (0, 2, 3, 4))
        self.assertEqual(way_to(course, (), 4), (0, 1, 3, 4))
        self.assertEqual(way_to(course, (4,), 0), (0,))
        self.assertIsNone(way_to(course, (1, 2), 4))
        # The first way in the order of course.ways counts, not the one that is open first.
        course = Course((((),), ((),), ((),), ((2,), (0, 1))))
        self.assertEqual(way_to(course, (), 3), (2, 3))
        course = Course((((),), ((0,),), ((4,),), ((2,), (0, 1)), ((3,), (1,))))
        self.assertEqual(way_to(course, (), 3), (0, 1, 3))

    def test_item_in_no_state(self):
        self.assertIsNone(way_to(Course(((), ((),))), (), 0))
        self.assertIsNone(way_to(Course(((), ((),))), (1,), 0))

    def test_refused(self):
        course = Course(SHORT)
        for value in [*odd_values(course), 0, [0], [0, 1]]:
            self.assert_raises_only(NoSet, way_to, course, value, 4)
            self.assert_raises_only(NoSet, way_to, course, value, None)
            self.assert_raises_only(NoSet, way_to, course, value, 7)
        for value in [*odd_values(course), (), (0,)]:
            self.assert_raises_only(NoItem, way_to, course, (), value)
            self.assert_raises_only(NoItem, way_to, course, (1, 2), value)
        for gate in all_sets(5):
            for item in gate:
                self.assert_raises_only(NoItem, way_to, course, gate, item)


class Plans(Orders):
    def test_plans(self):
        rng = random.Random(101)
        for course in courses(102, 100, 7):
            states = sorted(states_by_words(course.ways))
            group = tuple(rng.choice(states) for _ in range(rng.randint(0, 12)))
            whole = order_of(course, greatest(course))
            found = plan(course, group)
            self.assertEqual(found, tuple(tuple(q for q in whole if q not in state) for state in group))
            for state, order in zip(group, found):
                self.assertTrue(is_order(after(course, state), order))
                self.assertEqual(tuple(sorted(order + state)), greatest(course))
                done = state
                for item in order:
                    self.assertIn(item, ready(course, done))
                    done = tuple(sorted((*done, item)))

    def test_edges(self):
        course = Course(SHORT)
        self.assertEqual(plan(course, ()), ())
        self.assertEqual(plan(course, ((), (0, 2), (0, 2), (0, 1, 2, 3, 4))),
                         ((0, 1, 2, 3, 4), (1, 3, 4), (1, 3, 4), ()))
        self.assertEqual(plan(course, ((0,),) * 12), ((1, 2, 3, 4),) * 12)

    def test_refused(self):
        course = Course(SHORT)
        self.assert_raises_only(NoState, plan, course, ((0,),) * 13)
        for value in odd_values(course):
            if value != ((),) and value != ((0,),):
                self.assert_raises_only(NoState, plan, course, value)
        for value in [*odd_values(course), 0, [0], [], (1,), (0, 3)]:
            self.assert_raises_only(NoState, plan, course, (value,))
            self.assert_raises_only(NoState, plan, course, ((0,), (), value, (0, 1)))
        self.assert_raises_only(NoState, plan, course, [(0,)])


class OnTheWay(Orders):
    """Promises 12, 15 and 16 together."""

    def test_after(self):
        for course in courses(111, 40, 5):
            states = states_by_words(course.ways)
            for state in states:
                later = after(course, state)
                expected = {tuple(q for q in more if q not in state) for more in states if set(state) <= set(more)}
                self.assertEqual({items for items in all_sets(len(course)) if items in later}, expected)
                self.assertEqual(tuple(sorted(state + greatest(later))), greatest(course))
                for order in orders_by_words(course.ways):
                    if tuple(sorted(order[:len(state)])) == state:
                        self.assertTrue(is_order(later, order[len(state):]))

    def test_without(self):
        for course in courses(112, 40, 5):
            states = states_by_words(course.ways)
            for items in all_sets(len(course)):
                less = without(course, items)
                self.assertEqual({state for state in states if not set(state) & set(items)},
                                 {found for found in all_sets(len(course)) if found in less})

    def test_orders_of_both(self):
        rng = random.Random(113)
        for one in courses(114, 50, 5):
            other = Course(random_ways(rng, len(one)))
            first, second = set(orders_by_words(one.ways)), set(orders_by_words(other.ways))
            self.assertEqual(set(orders_by_words((one & other).ways)), first & second)
            for row in first | second:
                self.assertIs(is_order(one & other, row), row in first and row in second)
                self.assertIs(is_order(one | other, row), True)

    def test_courses_that_operators_return(self):
        rng = random.Random(115)
        for one in courses(116, 8, 24, 20):
            other, third = Course(random_ways(rng, len(one))), Course(random_ways(rng, len(one)))
            wide = (one | other) & (one | third)
            state = greatest(wide, (3, 4))
            order = order_of(wide, state)
            self.assertTrue(is_order(wide, order) and state in wide)
            self.assertEqual(tuple(sorted(order + greatest(after(wide, state)))), greatest(wide))
            self.assertEqual(state_of(wide, ready(wide, state)), state)
            self.assertEqual(plan(wide, (state,)), (tuple(
                q for q in order_of(wide, greatest(wide)) if q not in state),))
            self.assertTrue(wide == one | (other & third))
            for item in state:
                self.assertTrue(is_order(wide, way_to(wide, (), item)))

    def test_sums_are_learned_apart(self):
        for one, other in zip(courses(117, 20, 4), courses(118, 20, 4)):
            for state in all_sets(len(one) + len(other)):
                low = tuple(q for q in state if q < len(one))
                high = tuple(q - len(one) for q in state if q >= len(one))
                self.assertIs(state in one + other, low in one and high in other)


if __name__ == "__main__":
    unittest.main()
