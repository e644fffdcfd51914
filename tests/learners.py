"""Tutors word by word, and all that a tutor tells."""

import unittest

from learnways.errors import Clash, LearnError, NoDeed
from tests.certificates import clash_by_words, fitting_states
from tests.models import has_way_by_words, states_by_words


class Learner:
    """What the document says of a tutor, told by all states one by one."""

    def __init__(self, course):
        self.course = course
        self.states = sorted(states_by_words(course.ways))
        self.rows = []
        self.held = 0

    def answered(self, knows):
        return tuple(sorted({item for item, known in self.rows if known is knows}))

    def fit(self):
        return fitting_states(self.states, self.answered(True), self.answered(False))

    def sort_of(self, item):
        among = {item in state for state in self.fit()}
        return "open" if len(among) == 2 else "sure" if True in among else "out"

    def answer(self, item, knows):
        """("clash", item, noes), and nothing is changed; or ("open", number of open items)."""
        if (item, not knows) in self.rows:
            return ("clash", item, (item,))
        self.rows.append((item, knows))
        if not self.fit():
            clash = clash_by_words(self.states, self.answered(True), self.answered(False))
            self.rows.pop()
            return ("clash", *clash)
        return ("open", sum(self.sort_of(q) == "open" for q in range(len(self.course))))

    def undo(self):
        """The deed, or None if there is none that can be undone."""
        return self.rows.pop() if len(self.rows) > self.held else None

    def next_lesson(self):
        for item, entry in enumerate(self.course.ways):
            if self.sort_of(item) != "sure" and all(has_way_by_words(entry, state) for state in self.fit()):
                return item
        return None

    def told(self):
        """What all_told gives for a tutor with the same deeds."""
        sorts = [self.sort_of(item) for item in range(len(self.course))]
        return {
            "ways": self.course.ways, "yes": self.answered(True), "no": self.answered(False),
            "deeds": len(self.rows) - self.held, "rows": tuple(self.rows), "len": len(self.rows), "sorts": sorts,
            "in": [word == "sure" for word in sorts], "next": self.next_lesson(),
        }


def all_told(tutor):
    """All that a tutor tells, with the kinds of what it tells."""
    told = {
        "ways": tutor.course.ways, "yes": tutor.yes, "no": tutor.no, "deeds": tutor.deeds, "rows": tuple(tutor),
        "len": len(tutor), "sorts": [tutor[item] for item in range(len(tutor.course))],
        "in": [item in tutor for item in range(len(tutor.course))], "next": tutor.next_lesson(),
    }
    assert type(told["yes"]) is type(told["no"]) is tuple and type(told["deeds"]) is int
    for item, knows in told["rows"]:
        assert type(item) is int and type(knows) is bool
    return told


class Told(unittest.TestCase):
    def assert_same(self, tutor, learner):
        self.assertEqual(all_told(tutor), learner.told(), (learner.course.ways, learner.rows))

    def result_of(self, call, *passed):
        """What the learner gives for the same deed."""
        try:
            found = call(*passed)
        except Clash as clash:
            self.assertIs(type(clash), Clash)
            return ("clash", clash.item, clash.noes)
        except NoDeed:
            return None
        return ("open", found) if type(found) is int else found

    def do_answer(self, tutor, learner, item, knows):
        result = self.result_of(tutor.answer, item, knows)
        self.assertEqual(result, learner.answer(item, knows), (learner.course.ways, learner.rows, item, knows))
        return result

    def do_undo(self, tutor, learner):
        result = self.result_of(tutor.undo)
        self.assertEqual(result, learner.undo())
        return result

    def do_sign(self, tutor, learner, item, knows):
        """The same answer by a sign, with the name still bound to the tutor."""
        name = tutor
        expected = learner.answer(item, knows)
        try:
            if knows:
                name += item
            else:
                name -= item
            self.assertEqual(expected[0], "open")
        except Clash as clash:
            self.assertEqual(expected, ("clash", clash.item, clash.noes))
        self.assertIs(name, tutor)

    def assert_refused(self, error, call, *passed):
        with self.assertRaises(error) as caught:
            call(*passed)
        self.assertIs(type(caught.exception), error)
        self.assertIsInstance(caught.exception, LearnError)
