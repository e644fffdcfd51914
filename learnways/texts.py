"""Courses as texts with names for their items."""

from learnways.courses import Course
from learnways.errors import BadText, NoNames

LETTERS = "abcdefghijklmnopqrstuvwxyz"
LONGEST_NAME = 8
NO_ITEMS = "-"


def is_name(value):
    """Whether the value is a name."""
    if not isinstance(value, str) or not 1 <= len(value) <= LONGEST_NAME:
        return False
    return all([letter in LETTERS for letter in value])


def are_names(value, count):
    """Whether the value is a tuple of as many different names."""
    if not isinstance(value, tuple) or len(value) != count:
        return False
    return all([is_name(name) for name in value]) and len(set(value)) == count


def text_of(course, names):
    """The text of the course with a name for each item."""
    if not are_names(names, len(course)):
        raise NoNames("no tuple of different names, one for each item")
    return "\n".join([line_of(names[item], entry, names) for item, entry in enumerate(course.ways)])


def line_of(name, entry, names):
    """The line of an item with its ways."""
    return " ".join([f"{name}:", *[word_of(way, names) for way in entry]])


def word_of(way, names):
    """The word for a way."""
    if way == ():
        return NO_ITEMS
    return "+".join([names[item] for item in way])


def course_of(text):
    """The names and the course of a text."""
    if not isinstance(text, str):
        raise BadText(0)
    lines = text.split("\n")
    items = items_by_name(lines)
    entries = []
    for place, line in enumerate(lines):
        entry = entry_of(line, place, items)
        if entry is None or place >= Course.MOST:
            raise BadText(place + 1)
        entries.append(entry)
    return (tuple(items), Course(tuple(entries)))


def name_of(line):
    """The name with which the line begins, or None."""
    first, colon, rest = line.split(" ")[0].partition(":")
    if is_name(first) and colon == ":" and rest == "":
        return first
    return None


def items_by_name(lines):
    """For each name with which a line begins the item, which is the place of the first such line."""
    items = {}
    for place, line in enumerate(lines):
        name = name_of(line)
        if name is not None and name not in items:
            items[name] = place
    return items


def entry_of(line, place, items):
    """The ways that the line at the place tells, or None if the line is bad."""
    name = name_of(line)
    if name is None or items[name] != place:
        return None
    ways = [way_of(word, place, items) for word in line.split(" ")[1:]]
    return None if None in ways else tuple(ways)


def way_of(word, item, items):
    """The way of the item that the word tells, or None if it tells none."""
    if word == NO_ITEMS:
        return ()
    names = word.split("+")
    if not all([name in items and items[name] != item for name in names]) or len(set(names)) != len(names):
        return None
    return tuple(sorted([int(items[name]) for name in names]))
