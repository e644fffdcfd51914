"""Tests of values that may be of any kind."""


def is_integer(value):
    """Whether the value is an integer; a bool is none."""
    return isinstance(value, int) and not isinstance(value, bool)


def is_item(value, count):
    """Whether the value is an item of a course with count items."""
    return is_integer(value) and 0 <= value < count


def is_set(value, count):
    """Whether the value is a set of items of a course with count items."""
    if not isinstance(value, tuple):
        return False
    least = 0
    for item in value:
        if not is_item(item, count) or item < least:
            return False
        least = item + 1
    return True


def is_empty(value):
    """Whether the value is the empty set."""
    return isinstance(value, tuple) and len(value) == 0


def is_entry(value, item, count):
    """Whether the value is a tuple of ways of the item."""
    if not isinstance(value, tuple):
        return False
    for way in value:
        if not is_set(way, count) or item in way:
            return False
    return True


def is_ways(value, most):
    """Whether the value is a tuple of the ways of each item, for 1 to most items."""
    if not isinstance(value, tuple) or not 1 <= len(value) <= most:
        return False
    for item, entry in enumerate(value):
        if not is_entry(entry, item, len(value)):
            return False
    return True
