"""Certificates by the words of the document, grown by chance, and values with parts changed."""

import unittest

from learnways.courses import Course
from learnways.errors import LearnError
from tests.models import has_way_by_words, is_order_by_words, odd_values


class Checked(unittest.TestCase):
    def assert_raises_only(self, error, call, *passed):
        """The very error, however often the call is made; what was raised."""
        for _ in range(2):
            with self.assertRaises(error) as caught:
                call(*passed)
            self.assertIs(type(caught.exception), error)
            self.assertIsInstance(caught.exception, LearnError)
        return caught.exception

    def same_again(self, call, *passed):
        """The result, which is equal if the call is made again and changes nothing that was passed."""
        before = shown(passed)
        result = call(*passed)
        again = call(*passed)
        self.assertEqual(shown(result), shown(again))
        self.assertEqual(shown(passed), before)
        return result


def shown(value):
    """What can be seen of a value, and of courses in a tuple their ways."""
    if type(value) is tuple:
        return [shown(part) for part in value]
    return value.ways if isinstance(value, Course) else repr(value)


def is_set_by_words(n, value):
    if type(value) is not tuple or any(type(item) is not int for item in value):
        return False
    return value == tuple(q for q in range(n) if q in value)


def is_row_by_words(n, value):
    """Whether any value is a tuple of items."""
    return type(value) is tuple and all(type(item) is int and 0 <= item < n for item in value)


def is_tagged(value, word, size):
    return type(value) is tuple and len(value) == size and type(value[0]) is str and value[0] == word


def is_short_by_words(books, avoided, wanted, value):
    """A set without avoided items and without all wanted ones, to which no item can be added in all the books."""
    n = len(books[0])
    if not is_set_by_words(n, value) or set(value) & set(avoided) or set(wanted) <= set(value):
        return False
    return not any(
        all(has_way_by_words(book[q], value) for book in books)
        for q in range(n) if q not in value and q not in avoided
    )


def is_order_value(ways, value):
    return is_row_by_words(len(ways), value) and is_order_by_words(ways, value)


def is_verdict_by_words(ways, gate, item, value):
    if is_tagged(value, "free", 2):
        order = value[1]
        return is_order_value(ways, order) and order[-1:] == (item,) and not set(order) & set(gate)
    return is_tagged(value, "needed", 2) and is_short_by_words((ways,), gate, (item,), value[1])


def is_tree_by_words(books, entry, avoided, wanted, value):
    """A tree for the ways of an item in the last of the books."""
    if is_tagged(value, "short", 2):
        return is_short_by_words(books, avoided, wanted, value[1])
    if not is_tagged(value, "way", 3):
        return False
    _, way, trees = value
    if not is_set_by_words(len(books[0]), way) or way not in entry or type(trees) is not tuple:
        return False
    return len(trees) == len(way) and all(
        is_tree_by_words(books, entry, {*avoided, q}, wanted, tree) for q, tree in zip(way, trees)
    )


def is_gate_by_words(states, gate, item):
    return all(set(state) & set(gate) for state in states if item in state)


def is_case_tree_by_words(ways, states, yes, no, k, value):
    if not is_tagged(value, "clash", 4 if k else 3) or type(value[1]) is not int or value[1] not in yes:
        return False
    item = value[1]
    if k == 0:
        return is_short_by_words((ways,), no, (item,), value[2])
    noes, trees = value[2:]
    if not is_set_by_words(len(ways), noes) or not set(noes) <= set(no) or not is_gate_by_words(states, noes, item):
        return False
    if type(trees) is not tuple or len(trees) != len(noes) + 1:
        return False
    less = tuple(q for q in yes if q != item)
    return is_case_tree_by_words(ways, states, less, no, k - 1, trees[0]) and all(
        is_case_tree_by_words(ways, states, yes, tuple(q for q in no if q != wrong), k - 1, tree)
        for wrong, tree in zip(noes, trees[1:])
    )


def is_comparison_by_words(one, other, value):
    if is_tagged(value, "not within", 2):
        order = value[1]
        return is_order_value(one, order) and not is_order_by_words(other, order) and is_order_by_words(
            other, order[:-1])
    if not is_tagged(value, "within", 2) or type(value[1]) is not tuple or len(value[1]) != len(one):
        return False
    for item, trees in enumerate(value[1]):
        if type(trees) is not tuple or len(trees) != len(one[item]):
            return False
        for way, tree in zip(one[item], trees):
            if not is_tree_by_words((one, other), other[item], (item,), way, tree):
                return False
    return True


def keeps_off_avoided(avoided, tree):
    """Whether no way in the tree contains an item that is avoided at its place."""
    if tree[0] == "short":
        return True
    _, way, trees = tree
    return not set(way) & set(avoided) and all(
        keeps_off_avoided({*avoided, q}, part) for q, part in zip(way, trees)
    )


def closed_set(rng, books, avoided):
    """Some set without avoided items to which no other item can be added; not always a state."""
    n = len(books[0])
    share = rng.choice((0, 0, 0.2, 0.5))
    items = {q for q in range(n) if q not in avoided and rng.random() < share}
    grew = True
    while grew:
        more = {q for q in range(n) if q not in items and q not in avoided
                and all(has_way_by_words(book[q], items) for book in books)}
        grew = bool(more)
        items |= more
    return tuple(sorted(items))


def grown_tree(rng, books, entry, avoided, wanted, depth):
    """A tree of any ways and any closed sets, which may be none where it ends."""
    closed = closed_set(rng, books, avoided)
    if depth == 0 or not entry or (not set(wanted) <= set(closed) and rng.random() < 0.7):
        return ("short", closed)
    way = rng.choice(entry)
    return ("way", way, tuple(
        grown_tree(rng, books, entry, {*avoided, q}, wanted, depth - 1) for q in way
    ))


def places(value, path=()):
    """The paths to all parts of nested tuples and lists."""
    yield path
    if isinstance(value, (tuple, list)):
        for place, part in enumerate(value):
            yield from places(part, (*path, place))


def part_at(value, path):
    for place in path:
        value = value[place]
    return value


def with_part(value, path, parts):
    """The value with the part at a path of one step or more exchanged for the parts."""
    place, rest = path[0], path[1:]
    middle = parts if not rest else [with_part(value[place], rest, parts)]
    return type(value)([*value[:place], *middle, *value[place + 1:]])


def changed(rng, value, course):
    """The value with one part changed, left out, repeated, added or exchanged for another one."""
    paths = list(places(value))[1:]
    if not paths:
        return rng.choice(odd_values(course))
    path = rng.choice(paths)
    part = part_at(value, path)
    kind = rng.randrange(10)
    if kind == 0:
        return with_part(value, path, [])
    if kind == 1:
        return with_part(value, path, [part, part])
    if kind == 2:
        return with_part(value, path, [part_at(value, rng.choice(paths))])
    if kind == 3:
        return with_part(value, path, [part, part_at(value, rng.choice(paths))])
    if kind == 4:
        return with_part(value, path, [rng.choice(odd_values(course))])
    if kind == 5 and isinstance(part, tuple):
        return with_part(value, path, [list(part)])
    if kind == 6 and isinstance(part, tuple):
        return with_part(value, path, [tuple(sorted(rng.sample(range(len(course)), rng.randint(0, len(course)))))])
    if isinstance(part, int):
        return with_part(value, path, [rng.choice((part == 1, part + 1, part - 1, rng.randrange(len(course)), str(part)))])
    if isinstance(part, str):
        return with_part(value, path, [rng.choice(WORDS)])
    if kind == 8:
        return with_part(value, path, [(part,)])
    return with_part(value, path, [rng.randrange(len(course)), part])


WORDS = ("free", "needed", "short", "way", "clash", "sure", "out", "open", "within", "not within", "", "Free")


def variants(rng, value, course, many):
    """The value, and others that are made from it by one change or several ones."""
    yield value
    for _ in range(many):
        other = value
        for _ in range(rng.choice((1, 1, 1, 2, 3))):
            other = changed(rng, other, course)
        yield other


def strange_values(course):
    """Values that are no certificates at all: odd ones, and odd ones behind the words of certificates."""
    odd = odd_values(course)
    deep = ()
    for _ in range(5000):
        deep = ("way", (0,), (deep,))
    yield from odd
    yield from (deep, [deep], ("short", deep), ("way", deep, (deep,)), {"way": ()}, "way", ("way",), ("way", (), (), ()))
    for word in WORDS:
        yield (word,)
        yield [word, ()]
        yield (word, (), (), (), ())
        for value in (*odd, deep):
            yield (word, value)
            yield (word, value, ())
            yield (word, (), value)
            yield (word, 0, value, value)


def some_answers(rng, states, n):
    """Answers of a learner in some state, or any ones."""
    if rng.random() < 0.5:
        state = rng.choice(states)
        asked = [q for q in range(n) if rng.random() < 0.5]
        return tuple(q for q in asked if q in state), tuple(q for q in asked if q not in state)
    words = [rng.randrange(3) for _ in range(n)]
    return tuple(q for q in range(n) if words[q] == 0), tuple(q for q in range(n) if words[q] == 1)


def fitting_states(states, yes, no):
    return [state for state in states if set(yes) <= set(state) and not set(no) & set(state)]


def clash_by_words(states, yes, no):
    """The item and the noes of answers that do not fit."""
    item = min(q for q in yes if is_gate_by_words(states, no, q))
    noes = list(no)
    for each in no:
        left = [q for q in noes if q != each]
        if is_gate_by_words(states, left, item):
            noes = left
    return item, tuple(noes)
