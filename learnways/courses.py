"""Courses: for each item the ways in which it can be learned."""

from learnways.checks import is_integer, is_item, is_set, is_ways
from learnways.errors import NoCourse, NoItem, NoSet, NoState, OtherCourse
from learnways.masks import has_way, is_state_mask, items_of, mask_of, states_within


class Course:
    """A course, made from a tuple with the ways of each item; book has them as integers, see masks."""

    MOST = 24

    def __init__(self, ways):
        if not is_ways(ways, Course.MOST):
            raise NoCourse("the ways make no course")
        self._ways = tuple([tidy(entry) for entry in ways])
        self.book = tuple([masks_of(entry) for entry in self._ways])

    @property
    def ways(self):
        """The ways of each item in their tidy form."""
        return self._ways

    @classmethod
    def free(cls, n):
        """A course with n items that can be learned at once."""
        if not is_count(n):
            raise NoCourse("no number of items")
        return cls(tuple([((),) for _ in range(n)]))

    @classmethod
    def chain(cls, n):
        """A course with n items, each one after the preceding one."""
        if not is_count(n):
            raise NoCourse("no number of items")
        first = ((),)
        later = [((item - 1,),) for item in range(1, n)]
        return cls((first, *later))

    def __len__(self):
        return len(self._ways)

    def __iter__(self):
        return iter(self._ways)

    def __getitem__(self, item):
        if not is_item(item, len(self)):
            raise NoItem("the course has no such item")
        return self._ways[item]

    def __contains__(self, value):
        return is_set(value, len(self)) and is_state_mask(self.book, mask_of(value))

    def __repr__(self):
        return f"Course({len(self)} items, {sum([len(entry) for entry in self._ways])} ways)"

    def __eq__(self, other):
        return same_length(self, other) and covers(self, other) and covers(other, self)

    def __ne__(self, other):
        return not self == other

    def __le__(self, other):
        if not same_length(self, other):
            return NotImplemented
        return covers(other, self)

    def __lt__(self, other):
        if not same_length(self, other):
            return NotImplemented
        return covers(other, self) and not covers(self, other)

    def __ge__(self, other):
        if not same_length(self, other):
            return NotImplemented
        return covers(self, other)

    def __gt__(self, other):
        if not same_length(self, other):
            return NotImplemented
        return covers(self, other) and not covers(other, self)

    def __and__(self, other):
        if not same_length(self, other):
            raise OtherCourse("no course with as many items")
        return Course(tuple([joined(left, right) for left, right in zip(self.book, other.book)]))

    def __or__(self, other):
        if not same_length(self, other):
            raise OtherCourse("no course with as many items")
        return Course(tuple([left + right for left, right in zip(self.ways, other.ways)]))

    def __add__(self, other):
        if not isinstance(other, Course) or len(self) + len(other) > Course.MOST:
            raise OtherCourse("no course that can be added")
        return Course(self.ways + tuple([moved(entry, len(self)) for entry in other.ways]))


def is_count(value):
    """Whether the value is a number of items that a course can have."""
    return is_integer(value) and 1 <= value <= Course.MOST


def same_length(one, other):
    """Whether other is a course with as many items as one has."""
    return isinstance(other, Course) and len(one) == len(other)


def covers(one, other):
    """Whether every state of the other course is a state of this one."""
    return states_within(other.book, one.book)


def rank_of(way):
    """A number that is greater for longer ways, and for later ones among those of equal length."""
    rank = len(way)
    for item in way:
        rank = rank * Course.MOST + item
    return rank


def in_order(ways):
    """The different ones of the ways, the shorter ones first, those of equal length in the order of Python."""
    ranked = {rank_of(way): way for way in ways}
    return [ranked[rank] for rank in sorted([int(rank) for rank in ranked])]


def tidy(ways):
    """The ways in order, without those within which another one lies."""
    kept = []
    masks = []
    for way in in_order(ways):
        # A way that lies within this one is shorter, so it has been seen.
        if not has_way(masks, mask_of(way)):
            kept.append(way)
            masks.append(mask_of(way))
    return tuple(kept)


def masks_of(ways):
    """The ways as integers."""
    return tuple([mask_of(way) for way in ways])


def joined(left, right):
    """For each of the left ways and each of the right ones the items of both, where both are integers."""
    return tuple([items_of(one | other) for one in left for other in right])


def moved(ways, distance):
    """The ways with greater numbers of items."""
    return tuple([tuple([item + distance for item in way]) for way in ways])


def lessened(ways, items):
    """The ways without the items."""
    return tuple([tuple([item for item in way if item not in items]) for way in ways])


def after(course, state):
    """The course for a learner who is in the state."""
    if state not in course:
        raise NoState("no state of the course")
    left = [() if item in state else lessened(entry, state) for item, entry in enumerate(course.ways)]
    return Course(tuple(left))


def without(course, items):
    """The course in which the items have no ways."""
    if not is_set(items, len(course)):
        raise NoSet("no set of items of the course")
    return Course(tuple([() if item in items else entry for item, entry in enumerate(course.ways)]))
