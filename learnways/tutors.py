"""Tutors: what the answers of one learner say, one answer after the other."""

from learnways.answers import is_always, parted, sure
from learnways.checks import is_item
from learnways.errors import Clash, NoAnswers, NoDeed, NoItem
from learnways.masks import items_of, mask_of


class Tutor:
    """A tutor with no answers as yet.

    The deeds are kept as a tuple, so what was read off a tutor stays as it was; the first ones of them are held while
    a trial runs, and cannot be undone there.
    """

    def __init__(self, course):
        self._course = course
        self._rows = ()
        self._held = 0

    @property
    def course(self):
        """The course."""
        return self._course

    @property
    def yes(self):
        """The set of the items that the learner knows by the answers."""
        return answered(self._rows, True)

    @property
    def no(self):
        """The set of the items that the learner does not know by the answers."""
        return answered(self._rows, False)

    @property
    def deeds(self):
        """How many deeds can be undone."""
        return len(self._rows) - self._held

    def answer(self, item, knows):
        """Takes an answer, and returns the number of items that are open behind it."""
        if not is_item(item, len(self._course)):
            raise NoItem("the course has no such item")
        if not isinstance(knows, bool):
            raise NoAnswers("an answer is True or False")
        if (item, not knows) in self._rows:
            raise Clash(item, (item,))
        rows = (*self._rows, (item, knows))
        _, _, rest = sure(self._course, answered(rows, True), answered(rows, False))
        self._rows = rows
        return len(rest)

    def undo(self):
        """Undoes the last deed, and returns it."""
        if self.deeds == 0:
            raise NoDeed("there is no deed that can be undone")
        deed = self._rows[-1]
        self._rows = self._rows[:-1]
        return deed

    def trial(self, deed):
        """Calls the function with the tutor, undoes all that it has done, and returns what it returned."""
        rows = self._rows
        held = self._held
        self._held = len(rows)
        try:
            return deed(self)
        finally:
            self._rows = rows
            self._held = held

    def next_lesson(self):
        """The least item that is not sure and that the learner can learn for certain, or None."""
        certain, _, _ = parted(self._course, self.yes, self.no)
        for item in range(len(self._course)):
            if item not in certain and is_always(self._course, self.yes, self.no, item):
                return item
        return None

    def twin(self):
        """Another tutor with the same deeds, all of which can be undone."""
        other = Tutor(self._course)
        other._rows = self._rows
        return other

    def __iadd__(self, item):
        self.answer(item, True)
        return self

    def __isub__(self, item):
        self.answer(item, False)
        return self

    def __getitem__(self, item):
        if not is_item(item, len(self._course)):
            raise NoItem("the course has no such item")
        certain, out, _ = parted(self._course, self.yes, self.no)
        if item in certain:
            return "sure"
        return "out" if item in out else "open"

    def __contains__(self, value):
        return is_item(value, len(self._course)) and self[value] == "sure"

    def __iter__(self):
        return iter(self._rows)

    def __len__(self):
        return len(self._rows)

    def __eq__(self, other):
        return isinstance(other, Tutor) and self._rows == other._rows and self._course == other._course

    def __ne__(self, other):
        return not self == other


def answered(rows, knows):
    """The set of the items with this answer."""
    return items_of(mask_of([item for item, known in rows if known == knows]))
