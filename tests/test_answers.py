"""Promises 40 to 43: answers that fit, what they say for sure, and reasons."""

import random
import unittest

from learnways.answers import fitting, is_reason, is_tree, reach, reason, sure
from learnways.courses import Course
from learnways.errors import Clash, NoAnswers, NoItem, NoSet
from learnways.needs import gates, is_gate
from tests.certificates import (
    Checked, changed, clash_by_words, closed_set, fitting_states, is_set_by_words, is_short_by_words, is_tagged,
    some_answers, strange_values, variants,
)
from tests.models import (
    SHORT, all_sets, courses, greatest_by_words, layered, odd_values, random_ways, states_by_words,
)


def is_reason_by_words(ways, states, yes, no, item, value):
    n = len(ways)
    if item in no and is_tagged(value, "out", 2):
        return type(value[1]) is tuple and value[1] == ()
    if item in yes and is_tagged(value, "sure", 3):
        return type(value[1]) is int and value[1] == item and type(value[2]) is tuple and value[2] == ()
    if is_tagged(value, "out", 2):
        return is_short_by_words((ways,), no, (item,), value[1])
    if is_tagged(value, "sure", 3):
        known = type(value[1]) is int and value[1] in yes
        return known and is_short_by_words((ways,), (*no, item), (value[1],), value[2])
    if not is_tagged(value, "open", 3) or not all(is_set_by_words(n, part) for part in value[1:]):
        return False
    fits = fitting_states(states, yes, no)
    return value[1] in fits and value[2] in fits and item in value[1] and item not in value[2]


def samples(seed, many, most=6):
    """Courses, their states in order, and answers."""
    rng = random.Random(seed)
    for course in courses(seed + 1, many // 2, most) + layered(seed + 1, many // 2, most):
        states = sorted(states_by_words(course.ways))
        for _ in range(4):
            yield rng, course, states, *some_answers(rng, states, len(course))


class Refused(Checked):
    """What the functions about answers refuse, in the order of the interface."""

    def test_no_sets(self):
        course = Course(SHORT)
        for call in (fitting, sure):
            for value in [*odd_values(course), 0, [0], [0, 1]]:
                self.assert_raises_only(NoSet, call, course, value, ())
                self.assert_raises_only(NoSet, call, course, (), value)
                self.assert_raises_only(NoSet, call, course, value, value)
                self.assert_raises_only(NoSet, call, course, (0, 1), value)

    def test_no_sets_ahead_of_other_faults(self):
        course = Course(SHORT)
        for call in (reason, reach, lambda *passed: is_reason(*passed, ())):
            for value in [*odd_values(course), [0]]:
                for item in (0, 5, None, True):
                    self.assert_raises_only(NoSet, call, course, value, (0,), item)
                    self.assert_raises_only(NoSet, call, course, (0,), value, item)
                    self.assert_raises_only(NoSet, call, course, (4,), value, item)

    def test_same_item_twice(self):
        course = Course(SHORT)
        for yes in all_sets(5):
            for no in all_sets(5):
                if set(yes) & set(no):
                    for call in (fitting, sure):
                        self.assert_raises_only(NoAnswers, call, course, yes, no)
                    for call in (reason, reach, lambda *passed: is_reason(*passed, ())):
                        for item in (0, 5, True, "0"):
                            self.assert_raises_only(NoAnswers, call, course, yes, no, item)

    def test_no_items(self):
        course = Course(SHORT)
        for call in (reason, reach, lambda *passed: is_reason(*passed, ())):
            for value in [*odd_values(course), (), (0,), [0]]:
                self.assert_raises_only(NoItem, call, course, (0,), (1,), value)
                self.assert_raises_only(NoItem, call, course, (4,), (0,), value)

    def test_clashes(self):
        clashes = 0
        for rng, course, states, yes, no in samples(301, 300):
            if fitting_states(states, yes, no):
                sure(course, yes, no)
                continue
            clashes += 1
            item, noes = clash_by_words(states, yes, no)
            each = rng.randrange(len(course))
            for call, more in ((sure, ()), (reason, (each,)), (reach, (each,)), (is_reason, (each, ("out", ())))):
                raised = self.assert_raises_only(Clash, call, course, yes, no, *more)
                self.assertEqual((raised.item, raised.noes), (item, noes))
        self.assertGreater(clashes, 150)

    def test_right_again_behind_a_clash(self):
        course = Course(SHORT)
        for _ in range(3):
            self.assertEqual(sure(course, (4,), (1,)), ((0, 2, 3, 4), (1,), ()))
            raised = self.assert_raises_only(Clash, sure, course, (3, 4), (1, 2))
            self.assertEqual((raised.item, raised.noes), (3, (1, 2)))
            raised = self.assert_raises_only(Clash, reason, course, (4,), (0, 1, 2, 3), 0)
            self.assertEqual((raised.item, raised.noes), (4, (3,)))

    def test_trees_refused(self):
        course = Course(SHORT)
        for value in [*odd_values(course), 0, [0]]:
            for item in (0, 5, None):
                self.assert_raises_only(NoSet, is_tree, course, value, (), item, ())
                self.assert_raises_only(NoSet, is_tree, course, (), value, item, ())
        for value in [*odd_values(course), (), (0,), [0]]:
            self.assert_raises_only(NoItem, is_tree, course, (0,), (0, 1), value, ("short", ()))


class Fitting(Checked):
    def test_all_answers(self):
        fits = 0
        for _, course, states, yes, no in samples(311, 300):
            found = self.same_again(fitting, course, yes, no)
            fit = fitting_states(states, yes, no)
            if fit:
                self.assertEqual(found, ("fits", greatest_by_words(states, no)))
                self.assertIn(found[1], fit)
                fits += 1
            else:
                self.assertEqual(found, ("clash", *clash_by_words(states, yes, no)))
                if found[1] not in found[2]:
                    self.assertIn(found[2], gates(course, found[1]))
        self.assertGreater(min(fits, 1200 - fits), 120)

    def test_noes_are_left_out_from_the_first_one_on(self):
        course = Course((((),), ((),), ((),), ((),), ((0, 1), (2, 3)), ((4,),)))
        self.assertEqual(fitting(course, (4,), (0, 1, 2, 3)), ("clash", 4, (1, 3)))
        self.assertEqual(fitting(course, (5,), (0, 2, 4)), ("clash", 5, (4,)))
        self.assertEqual(fitting(course, (4, 5), (0, 2)), ("clash", 4, (0, 2)))
        self.assertEqual(fitting(course, (0, 5), (2,)), ("fits", (0, 1, 3, 4, 5)))

    def test_edges(self):
        course = Course(((), ((0,),), ((),)))
        self.assertEqual(fitting(course, (), ()), ("fits", (2,)))
        self.assertEqual(fitting(course, (2,), (0, 1)), ("fits", (2,)))
        self.assertEqual(fitting(course, (1, 2), (0,)), ("clash", 1, ()))
        self.assertEqual(fitting(course, (0, 1), (2,)), ("clash", 0, ()))
        self.assertEqual(fitting(course, (), (0, 1, 2)), ("fits", ()))


class Sure(Checked):
    def test_all_states(self):
        for _, course, states, yes, no in samples(321, 300):
            fit = fitting_states(states, yes, no)
            if not fit:
                continue
            certain, out, rest = self.same_again(sure, course, yes, no)
            n = len(course)
            self.assertEqual(certain, tuple(q for q in range(n) if all(q in state for state in fit)))
            self.assertEqual(out, tuple(q for q in range(n) if not any(q in state for state in fit)))
            self.assertEqual(rest, tuple(q for q in range(n) if q not in certain and q not in out))

    def test_examples(self):
        course = Course(SHORT)
        self.assertEqual(sure(course, (4,), (1,)), ((0, 2, 3, 4), (1,), ()))
        self.assertEqual(sure(course, (), ()), ((), (), (0, 1, 2, 3, 4)))
        self.assertEqual(sure(course, (4,), ()), ((0, 3, 4), (), (1, 2)))
        self.assertEqual(sure(course, (), (0,)), ((), (0, 1, 2, 3, 4), ()))
        self.assertEqual(sure(Course(((), ((0,),), ((),))), (), ()), ((), (0, 1), (2,)))


class Reasons(Checked):
    def by_words(self, course, states, yes, no, item):
        fit = fitting_states(states, yes, no)
        if item in yes:
            return ("sure", item, ())
        if item in no:
            return ("out", ())
        if not any(item in state for state in fit):
            return ("out", greatest_by_words(states, no))
        other = greatest_by_words(states, (*no, item))
        if all(item in state for state in fit):
            return ("sure", min(q for q in yes if is_gate(course, tuple(sorted({*no, item})), q)), other)
        return ("open", greatest_by_words(fit, ()), greatest_by_words([s for s in fit if item not in s], ()))

    def test_each_item(self):
        words = []
        for _, course, states, yes, no in samples(331, 200):
            if not fitting_states(states, yes, no):
                continue
            certain, out, _ = sure(course, yes, no)
            for item in range(len(course)):
                found = self.same_again(reason, course, yes, no, item)
                self.assertEqual(found, self.by_words(course, states, yes, no, item))
                self.assertTrue(is_reason_by_words(course.ways, states, yes, no, item, found))
                self.assertIs(is_reason(course, yes, no, item, found), True)
                self.assertEqual(found[0], "sure" if item in certain else "out" if item in out else "open")
                words.append(found[0])
        for word in ("sure", "out", "open"):
            self.assertGreater(words.count(word), 300)

    def test_examples(self):
        course = Course(SHORT)
        self.assertEqual(reason(course, (4,), (1,), 4), ("sure", 4, ()))
        self.assertEqual(reason(course, (3, 4), (1,), 2), ("sure", 3, (0,)))
        self.assertEqual(reason(course, (4,), (1,), 1), ("out", ()))
        self.assertEqual(reason(course, (), (3,), 4), ("out", (0, 1, 2)))
        self.assertEqual(reason(course, (3,), (), 4), ("open", (0, 1, 2, 3, 4), (0, 1, 2, 3)))


class ReasonsKnown(Checked):
    def check(self, course, states, yes, no, item, value):
        self.assertIs(is_reason(course, yes, no, item, value),
                      is_reason_by_words(course.ways, states, yes, no, item, value),
                      (course.ways, yes, no, item, value))

    def test_all_items_sets_and_states(self):
        for _, course, states, yes, no in samples(341, 10, 4):
            if fitting_states(states, yes, no):
                for item in range(len(course)):
                    for items in all_sets(len(course)):
                        self.check(course, states, yes, no, item, ("out", items))
                        for known in range(len(course) + 1):
                            self.check(course, states, yes, no, item, ("sure", known, items))
                        for other in all_sets(len(course)):
                            self.check(course, states, yes, no, item, ("open", items, other))

    def test_changed_reasons(self):
        for rng, course, states, yes, no in samples(342, 120, 7):
            if fitting_states(states, yes, no):
                found = [reason(course, yes, no, item) for item in range(len(course))]
                for item in range(len(course)):
                    for value in variants(rng, found[item], course, 12):
                        self.check(course, states, yes, no, item, value)
                    for value in found:
                        self.check(course, states, yes, no, item, value)

    def test_other_items_of_yes_and_other_closed_sets(self):
        good = 0
        for rng, course, states, yes, no in samples(343, 300, 8):
            if fitting_states(states, yes, no):
                for item in range(len(course)):
                    for known in (*yes, rng.randrange(len(course))):
                        closed = closed_set(rng, (course.ways,), {*no, item})
                        self.check(course, states, yes, no, item, ("sure", known, closed))
                        good += is_reason(course, yes, no, item, ("sure", known, closed))
                    closed = closed_set(rng, (course.ways,), no)
                    self.check(course, states, yes, no, item, ("out", closed))
                    self.check(course, states, yes, no, item, ("open", rng.choice(states), rng.choice(states)))
        self.assertGreater(good, 400)

    def test_examples(self):
        course = Course(SHORT)
        self.assertIs(is_reason(course, (3, 4), (1,), 2, ("sure", 4, (0,))), True)
        self.assertIs(is_reason(course, (3, 4), (1,), 2, ("sure", 2, ())), False)
        self.assertIs(is_reason(course, (3, 4), (1,), 4, ("sure", 3, ())), False)
        self.assertIs(is_reason(course, (3, 4), (1,), 4, ("sure", 4, [])), False)
        self.assertIs(is_reason(course, (0, 1), (), 1, ("sure", 1, ())), True)
        self.assertIs(is_reason(course, (0, 1), (), 1, ("sure", True, ())), False)
        self.assertIs(is_reason(course, (0, 1), (), 0, ("sure", 1, ())), False)
        # Also where the other item of yes cannot be known without this one.
        self.assertIs(is_reason(course, (0, 1), (), 0, ("sure", 1, (2,))), False)
        self.assertIs(is_reason(course, (), (3,), 3, ("out", ())), True)
        self.assertIs(is_reason(course, (), (3,), 3, ("out", (0, 1, 2))), False)
        self.assertIs(is_reason(course, (), (3,), 4, ("out", (0, 1, 2))), True)
        self.assertIs(is_reason(course, (), (0,), 4, ("out", ())), True)
        self.assertIs(is_reason(course, (0,), (), 4, ("open", (0, 1, 3, 4), (0,))), True)
        self.assertIs(is_reason(course, (0,), (), 4, ("open", (0, 1, 3, 4), ())), False)
        self.assertIs(is_reason(course, (0,), (), 4, ("open", (0,), (0, 1, 3, 4))), False)

    def test_other_values(self):
        for course in (Course(SHORT), Course.free(1), Course(((), ())), *courses(344, 2, 7)):
            states = sorted(states_by_words(course.ways))
            state = states[-1]
            rest = tuple(q for q in range(len(course)) if q not in state)
            for value in strange_values(course):
                for yes, no in (((), ()), (state, ()), ((), (0,)), (state, rest)):
                    for item in (0, len(course) - 1):
                        self.check(course, states, yes, no, item, value)


class LargeCourses(Checked):
    def test_answers_one_after_another(self):
        rng = random.Random(351)
        for course in courses(352, 20, 18, 12) + layered(352, 20, 18, 12):
            n = len(course)
            answers = [(), ()]
            asked = rng.sample(range(n), min(14, n))
            for item in asked:
                side = rng.randrange(2)
                more = list(answers)
                more[side] = tuple(sorted((*answers[side], item)))
                self.assertEqual(fitting(course, *answers)[0], "fits")
                if fitting(course, *more)[0] == "clash":
                    word, known, noes = fitting(course, *more)
                    self.assertIs(is_gate(course, noes, known), True)
                    for each in noes:
                        self.assertIs(is_gate(course, tuple(q for q in noes if q != each), known), False)
                    raised = self.assert_raises_only(Clash, sure, course, *more)
                    self.assertEqual((word, raised.item, raised.noes), ("clash", known, noes))
                    # Not the one, so the other: that is why it was sure or out.
                    self.assertIn(item, sure(course, *answers)[side ^ 1])
                    continue
                answers = more
                self.check_reasons(rng, course, *answers)

    def check_reasons(self, rng, course, yes, no):
        certain, out, rest = sure(course, yes, no)
        self.assertEqual(sorted(certain + out + rest), list(range(len(course))))
        self.assertTrue(set(yes) <= set(certain) and set(no) <= set(out))
        for item in range(len(course)):
            found = reason(course, yes, no, item)
            self.assertIs(is_reason(course, yes, no, item, found), True)
            word = "sure" if item in certain else "out" if item in out else "open"
            self.assertEqual(found[0], word)
            for _ in range(3):
                value = changed(rng, found, course)
                if is_reason(course, yes, no, item, value):
                    self.assertEqual(value[0], word)

    def test_courses_that_operators_return(self):
        rng = random.Random(353)
        for one in courses(354, 20, 7, 4):
            other = Course(random_ways(rng, len(one)))
            for course in (one & other, one | other):
                states = sorted(states_by_words(course.ways))
                for _ in range(4):
                    yes, no = some_answers(rng, states, len(course))
                    fit = fitting_states(states, yes, no)
                    self.assertEqual(fitting(course, yes, no)[0], "fits" if fit else "clash")
                    if fit:
                        self.check_reasons(rng, course, yes, no)


if __name__ == "__main__":
    unittest.main()
