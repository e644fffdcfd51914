"""Gates: what an item cannot be learned without."""

from learnways.checks import is_empty, is_item
from learnways.courses import in_order
from learnways.errors import NoItem, TooMany
from learnways.masks import all_items, greatest_in, has_way, items_of, mask_of
from learnways.orders import check_gate, greatest, is_order, way_to
from learnways.trees import is_short

MOST_FOR_GATES = 10


def verdict(course, gate, item):
    """What shows whether the item can be learned without the gate."""
    order = way_to(course, gate, item)
    if order is None:
        return ("needed", greatest(course, gate))
    return ("free", order)


def is_verdict(course, gate, item, value):
    """Whether any value is a verdict on the gate and the item."""
    check_gate(course, gate, item)
    if not isinstance(value, tuple) or len(value) != 2:
        return False
    if value[0] == "free":
        return is_free_order(course, gate, item, value[1])
    return value[0] == "needed" and is_short((course.book,), mask_of(gate), 1 << item, value[1])


def is_free_order(course, gate, item, value):
    """Whether any value is an order that ends with the item, without items of the gate."""
    if not is_order(course, value) or is_empty(value):
        return False
    return value[-1] == item and mask_of(value) & mask_of(gate) == 0


def is_gate(course, gate, item):
    """Whether the item cannot be learned without the gate."""
    check_gate(course, gate, item)
    return shuts_out(course.book, mask_of(gate), item)


def shuts_out(book, gate, item):
    """The same, where the gate is an integer."""
    return (greatest_in((book,), all_items(len(book)) ^ gate) >> item) & 1 == 0


def gates(course, item):
    """All least gates of the item."""
    if len(course) > MOST_FOR_GATES:
        raise TooMany(MOST_FOR_GATES)
    if not is_item(item, len(course)):
        raise NoItem("no item of the course")
    found = []
    # The sets within a set are smaller integers, so they have been seen ahead of it.
    for mask in range(1 << len(course)):
        if (mask >> item) & 1 == 0 and not has_way(found, mask) and shuts_out(course.book, mask, item):
            found.append(mask)
    return tuple(in_order([items_of(mask) for mask in found]))
