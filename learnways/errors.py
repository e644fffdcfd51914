"""The exceptions of the package."""


class LearnError(ValueError):
    """What every exception of the package is."""


class NoCourse(LearnError):
    """The value makes no course."""


class NoItem(LearnError):
    """The value is no item that may stand here."""


class NoSet(LearnError):
    """The value is no set of items of the course."""


class NoState(LearnError):
    """The value is no state of the course, or no tuple of states."""


class NoOrder(LearnError):
    """The value is no order that may stand here."""


class NoAnswers(LearnError):
    """The values are no answers."""


class NoDurations(LearnError):
    """The value is no tuple of durations."""


class NoNames(LearnError):
    """The value is no tuple of names for the items of the course."""


class NoPlace(LearnError):
    """The value is no number that may stand here."""


class NoDeed(LearnError):
    """There is no deed that can be undone."""


class OtherCourse(LearnError):
    """The value is no course that goes with this one."""


class Clash(LearnError):
    """The answers fit no state: the item cannot be known without the noes."""

    def __init__(self, item, noes):
        super().__init__("the answers clash")
        self.item = item
        self.noes = noes


class TooMany(LearnError):
    """The course has more items than the limit."""

    def __init__(self, limit):
        super().__init__("the course has too many items")
        self.limit = limit


class BadText(LearnError):
    """The text is no text of a course, because of the line."""

    def __init__(self, line):
        super().__init__("the text has a bad line")
        self.line = line
