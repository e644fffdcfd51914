"""What answers to a few questions say about a learner."""

from learnways.checks import is_empty, is_item, is_set
from learnways.errors import Clash, NoAnswers, NoItem, NoSet
from learnways.masks import all_items, gap_in, greatest_in, has_way, items_of, lies_within, mask_of
from learnways.needs import shuts_out
from learnways.orders import greatest
from learnways.trees import is_loose, is_short, is_tree_for, tree_for


def check_answers(course, yes, no):
    """Refuses what are no answers."""
    if not is_set(yes, len(course)) or not is_set(no, len(course)):
        raise NoSet("no set of items of the course")
    if mask_of(yes) & mask_of(no) != 0:
        raise NoAnswers("both sets have the same item")


def check_fit(course, yes, no):
    """Refuses what are no answers, and answers that fit no state."""
    result = fitting(course, yes, no)
    if result[0] == "clash":
        raise Clash(result[1], result[2])


def check_question(course, yes, no, item):
    """Refuses what are no answers that fit some state, and what is no item."""
    check_answers(course, yes, no)
    if not is_item(item, len(course)):
        raise NoItem("no item of the course")
    check_fit(course, yes, no)


def fitting(course, yes, no):
    """The greatest state that fits, or an item of yes with the noes that it cannot be learned without."""
    check_answers(course, yes, no)
    state = greatest(course, no)
    for item in yes:
        if item not in state:
            return ("clash", item, needed_noes(course.book, item, no))
    return ("fits", state)


def needed_noes(book, item, no):
    """What is left of a gate of the item, if each item in turn is left out that can be left out."""
    kept = mask_of(no)
    for each in no:
        if shuts_out(book, kept ^ (1 << each), item):
            kept = kept ^ (1 << each)
    return items_of(kept)


def greatest_fit(course, no, item):
    """The greatest state without the items of no and without the item, as an integer."""
    return greatest_in((course.book,), all_items(len(course)) ^ (mask_of(no) | (1 << item)))


def sure(course, yes, no):
    """The sets of the items that are in all states that fit, in none of them, and in some of them only."""
    check_fit(course, yes, no)
    return parted(course, yes, no)


def parted(course, yes, no):
    """The same, where the answers fit some state."""
    state = greatest(course, no)
    rest = open_items(course.book, mask_of(yes), mask_of(state))
    certain = [item for item in state if item not in rest]
    out = [item for item in range(len(course)) if item not in state]
    return (tuple(certain), tuple(out), rest)


def open_items(book, wanted, reached):
    """The set of the open items, where wanted is yes, and reached is the greatest state that fits."""
    return tuple([item for item in items_of(reached) if is_loose((book,), wanted, reached, item)])


def reason(course, yes, no, item):
    """What shows whether the item is sure, out or open."""
    check_question(course, yes, no, item)
    if item in yes:
        return ("sure", item, ())
    if item in no:
        return ("out", ())
    state = greatest(course, no)
    if item not in state:
        return ("out", state)
    other = greatest_fit(course, no, item)
    for known in yes:
        if (other >> known) & 1 == 0:
            return ("sure", known, items_of(other))
    return ("open", state, items_of(other))


def is_reason(course, yes, no, item, value):
    """Whether any value is a reason for the item."""
    check_question(course, yes, no, item)
    if not isinstance(value, tuple):
        return False
    if len(value) == 2 and value[0] == "out":
        return is_out(course, no, item, value[1])
    if len(value) == 3 and value[0] == "sure":
        return is_sure(course, yes, no, item, value[1], value[2])
    if len(value) == 3 and value[0] == "open":
        return is_fit_with(course, yes, no, item, value[1]) and is_fit_without(course, yes, no, item, value[2])
    return False


def is_out(course, no, item, closed):
    """Whether any value shows that the item is in no state that fits."""
    if item in no:
        return is_empty(closed)
    return is_short((course.book,), mask_of(no), 1 << item, closed)


def is_sure(course, yes, no, item, known, closed):
    """Whether any two values show that the item is in all states that fit."""
    if not is_item(known, len(course)) or known not in yes:
        return False
    if item in yes:
        return known == item and is_empty(closed)
    return is_short((course.book,), mask_of(no) | (1 << item), 1 << known, closed)


def is_fit_with(course, yes, no, item, value):
    """Whether any value is a state that fits and has the item."""
    return is_fit(course, yes, no, value) and item in value


def is_fit_without(course, yes, no, item, value):
    """Whether any value is a state that fits and has not the item."""
    return is_fit(course, yes, no, value) and item not in value


def is_fit(course, yes, no, value):
    """Whether any value is a state that fits."""
    return value in course and lies_within(mask_of(yes), mask_of(value)) and mask_of(no) & mask_of(value) == 0


def reach(course, yes, no, item):
    """Whether the item is within reach of all states that fit, of some or of none, and what shows it."""
    check_question(course, yes, no, item)
    state = greatest(course, no)
    reached = mask_of(state)
    ways = course.book[item]
    if not has_way(ways, reached):
        return ("never", state)
    gap = gap_at(course, yes, no, item)
    if gap is not None:
        return ("sometimes", state, items_of(gap))
    return ("always", tree_for((course.book,), ways, mask_of(yes), reached, {}))


def gap_at(course, yes, no, item):
    """Some state that fits and has not the item within reach, as an integer, or None."""
    return gap_in((course.book,), course.book[item], all_items(len(course)) ^ mask_of(no), mask_of(yes))


def is_always(course, yes, no, item):
    """Whether the item is within reach of all states that fit, where some state fits."""
    return gap_at(course, yes, no, item) is None


def is_tree(course, avoided, wanted, item, value):
    """Whether any value is a tree for these sets and this item."""
    if not is_set(avoided, len(course)) or not is_set(wanted, len(course)):
        raise NoSet("no set of items of the course")
    if not is_item(item, len(course)):
        raise NoItem("no item of the course")
    return is_tree_for((course.book,), course.book[item], mask_of(avoided), mask_of(wanted), value)
