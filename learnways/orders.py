"""Orders in which the items of a course can be learned, and the states that they lead to."""

from learnways.checks import is_item, is_set
from learnways.errors import NoItem, NoSet, NoState
from learnways.masks import (
    all_items,
    first_order,
    first_way,
    greatest_in,
    has_way,
    is_state_mask,
    items_of,
    mask_of,
    ready_items,
)

MOST_LEARNERS = 12


def is_order(course, value):
    """Whether the value is an order of the course."""
    if not isinstance(value, tuple):
        return False
    done = 0
    for item in value:
        if not is_item(item, len(course)) or (done >> item) & 1 == 1:
            return False
        if not has_way(course.book[item], done):
            return False
        done = done | (1 << item)
    return True


def is_state(course, value):
    """Whether the value is a state of the course."""
    return value in course


def greatest(course, avoided=()):
    """The greatest state without the avoided items."""
    if not is_set(avoided, len(course)):
        raise NoSet("no set of items of the course")
    allowed = all_items(len(course)) ^ mask_of(avoided)
    return items_of(greatest_in((course.book,), allowed))


def order_of(course, state):
    """The first order of the items of the state."""
    if state not in course:
        raise NoState("no state of the course")
    return first_order((course.book,), mask_of(state))


def way_to(course, gate, item):
    """An order without items of the gate that leads to the item, or None if there is none."""
    check_gate(course, gate, item)
    order = order_of(course, greatest(course, gate))
    if item not in order:
        return None
    return needed_steps(course.book, order, item)


def check_gate(course, gate, item):
    """Refuses what is no set of items, or no item outside of it."""
    if not is_set(gate, len(course)):
        raise NoSet("no set of items of the course")
    if not is_item(item, len(course)) or item in gate:
        raise NoItem("no item of the course outside the gate")


def needed_steps(book, order, item):
    """The item and what it needs of the order, by the first ways that are open there."""
    needed = 1 << item
    steps = []
    # What an item needs stands ahead of it, so one pass from the end finds all.
    for place in reversed(range(len(order))):
        step = order[place]
        if (needed >> step) & 1 == 1:
            steps.append(step)
            needed = needed | first_way(book[step], mask_of(order[:place]))
    return tuple(steps[::-1])


def ready(course, state):
    """The set of the items that are ready in the state."""
    if state not in course:
        raise NoState("no state of the course")
    return ready_items(course.book, mask_of(state))


def lasts(course, state):
    """The set of the last items of the state."""
    if state not in course:
        raise NoState("no state of the course")
    mask = mask_of(state)
    return tuple([item for item in state if is_state_mask(course.book, mask ^ (1 << item))])


def state_of(course, items):
    """The state in which exactly these items are ready, or None."""
    state = greatest(course, items)
    # Each smaller state has a ready item of this one, which is none of the items.
    if ready(course, state) == items:
        return state
    return None


def is_group(course, value):
    """Whether the value is a tuple of states for as many learners as there may be."""
    if not isinstance(value, tuple) or len(value) > MOST_LEARNERS:
        return False
    return all([state in course for state in value])


def plan(course, states):
    """For each learner who is in one of the states, the order of what remains to be learned."""
    if not is_group(course, states):
        raise NoState("no tuple of states of the course")
    order = order_of(course, greatest(course))
    return tuple([lacking(order, state) for state in states])


def lacking(order, state):
    """The items of the order that are not in the state."""
    return tuple([item for item in order if item not in state])
