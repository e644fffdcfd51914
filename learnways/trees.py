"""Trees that show that wherever all wanted items are learned, but no avoided one, one of some ways is learned, too.

Each branch goes on with one item more that is avoided, and ends where the wanted items cannot be learned any more. The
books are those of the one course in question, or of two courses for their common orders. Sets are integers, see masks.
"""

from learnways.checks import is_set
from learnways.masks import greatest_in, is_closed, items_of, lies_within, mask_of


def is_short(books, avoided, wanted, value):
    """Whether any value is a set that shows that not all wanted items can be learned without the avoided ones."""
    if not is_set(value, len(books[0])):
        return False
    closed = mask_of(value)
    if closed & avoided != 0 or lies_within(wanted, closed):
        return False
    return is_closed(books, avoided, closed)


def is_tree_for(books, ways, avoided, wanted, value):
    """Whether any value is a tree for the ways."""
    # A tree may avoid an item again and again, so there is no limit for its depth: no recursion.
    pending = [(avoided, value)]
    while pending:
        held, part = pending.pop()
        branches = branches_of(books, ways, held, wanted, part)
        if branches is None:
            return False
        pending.extend(branches)
    return True


def branches_of(books, ways, avoided, wanted, value):
    """For each branch its avoided items and the value there; or None if the value cannot be a tree."""
    if not isinstance(value, tuple):
        return None
    if len(value) == 2 and value[0] == "short" and is_short(books, avoided, wanted, value[1]):
        return []
    if len(value) == 3 and value[0] == "way" and is_split(books, ways, value[1], value[2]):
        return [(avoided | (1 << item), part) for item, part in zip(value[1], value[2])]
    return None


def is_split(books, ways, way, trees):
    """Whether these values are one of the ways, and a tuple with as many parts as the way has items."""
    if not is_set(way, len(books[0])) or mask_of(way) not in ways:
        return False
    return isinstance(trees, tuple) and len(trees) == len(way)


def tree_for(books, ways, wanted, allowed, grown):
    """Some tree for the ways, where there is one; grown keeps the trees by the items that can be learned there."""
    reached = greatest_in(books, allowed)
    if reached in grown:
        return grown[reached]
    if lies_within(wanted, reached):
        way = items_of(narrowest_way(books, ways, wanted, reached))
        trees = [tree_for(books, ways, wanted, reached ^ (1 << item), grown) for item in way]
        tree = ("way", way, tuple(trees))
    else:
        tree = ("short", items_of(reached))
    grown[reached] = tree
    return tree


def narrowest_way(books, ways, wanted, reached):
    """Of the ways within the reached items, the one with the fewest items that the wanted ones can do without."""
    best = None
    fewest = None
    for way in ways:
        if lies_within(way, reached):
            loose = [item for item in items_of(way) if is_loose(books, wanted, reached, item)]
            if best is None or len(loose) < fewest:
                best = way
                fewest = len(loose)
    return best


def is_loose(books, wanted, reached, item):
    """Whether the wanted items can be learned without the item, which is one of the reached ones."""
    return lies_within(wanted, greatest_in(books, reached ^ (1 << item)))
