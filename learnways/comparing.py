"""Whether every state of one course is a state of another one, and what shows it."""

from learnways.courses import same_length
from learnways.errors import OtherCourse
from learnways.masks import all_items, first_order, gap_between
from learnways.orders import is_order
from learnways.trees import is_tree_for, tree_for


def compared(one, other):
    """Trees that show that each state of one is a state of other, or an order of one that is none of other."""
    check_other(one, other)
    for item, ways in enumerate(one.book):
        for way in ways:
            gap = gap_between(one.book, other.book, item, way)
            if gap is not None:
                return ("not within", (*first_order((one.book, other.book), gap), item))
    return ("within", tuple([trees_of(one, other, item) for item in range(len(one))]))


def check_other(one, other):
    """Refuses what is no course with as many items."""
    if not same_length(one, other):
        raise OtherCourse("no course with as many items")


def trees_of(one, other, item):
    """A comparison tree for each way of the item in one, where there is one for each."""
    books = (one.book, other.book)
    allowed = all_items(len(one)) ^ (1 << item)
    return tuple([tree_for(books, other.book[item], way, allowed, {}) for way in one.book[item]])


def is_comparison(one, other, value):
    """Whether any value is what compared can return for the courses."""
    check_other(one, other)
    if not isinstance(value, tuple) or len(value) != 2:
        return False
    if value[0] == "within":
        return are_trees(one, other, value[1])
    return value[0] == "not within" and is_only_in_one(one, other, value[1])


def are_trees(one, other, value):
    """Whether any value has a comparison tree for each way of each item in one."""
    if not isinstance(value, tuple) or len(value) != len(one):
        return False
    return all([are_trees_for(one, other, item, value[item]) for item in range(len(one))])


def are_trees_for(one, other, item, value):
    """Whether any value has a comparison tree for each way of the item in one."""
    ways = one.book[item]
    if not isinstance(value, tuple) or len(value) != len(ways):
        return False
    books = (one.book, other.book)
    return all([is_tree_for(books, other.book[item], 1 << item, way, tree) for way, tree in zip(ways, value)])


def is_only_in_one(one, other, value):
    """Whether any value is an order of one that is no order of other because of its last item."""
    return is_order(one, value) and not is_order(other, value) and is_order(other, value[:-1])
