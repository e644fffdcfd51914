"""Sets of items as integers, in which bit q stands for item q.

A book is a tuple with an entry for each item: the tuple of its ways, as such integers.
"""


def mask_of(items):
    """The integer for the items."""
    mask = 0
    for item in items:
        mask = mask | (1 << item)
    return mask


def items_of(mask):
    """The set for the integer."""
    items = []
    for item in range(mask.bit_length()):
        if (mask >> item) & 1 == 1:
            items.append(item)
    return tuple(items)


def all_items(count):
    """The integer for all items of a course with count items."""
    return (1 << count) - 1


def lies_within(way, items):
    """Whether one set has no items but those of the other one."""
    return way & items == way


def first_way(ways, items):
    """The first of the ways that lies within the items, or None."""
    for way in ways:
        if lies_within(way, items):
            return way
    return None


def has_way(ways, items):
    """Whether one of the ways lies within the items."""
    return first_way(ways, items) is not None


def can_follow(books, item, done):
    """Whether the item has a way within the items that are done in each of the books."""
    for book in books:
        if not has_way(book[item], done):
            return False
    return True


def greatest_in(books, allowed):
    """The items of the longest orders common to all the books that have allowed items only."""
    items = items_of(allowed)
    done = 0
    before = None
    while done != before:
        before = done
        for item in items:
            if (done >> item) & 1 == 0 and can_follow(books, item, done):
                done = done | (1 << item)
    return done


def is_state_mask(book, items):
    """Whether the items are those of an order."""
    return greatest_in((book,), items) == items


def ready_items(book, state):
    """The items, as a set, that can be learned next."""
    return tuple([
        item for item in range(len(book))
        if (state >> item) & 1 == 0 and has_way(book[item], state)
    ])


def is_closed(books, avoided, items):
    """Whether no item but the avoided ones can follow the items in all the books."""
    for item in items_of(all_items(len(books[0])) ^ (avoided | items)):
        if can_follow(books, item, items):
            return False
    return True


def first_order(books, state):
    """The order of the state, common to all the books, that has the least possible item at each place."""
    order = []
    done = 0
    while done != state:
        item = least_next(books, done, state)
        order.append(item)
        done = done | (1 << item)
    return tuple(order)


def least_next(books, done, state):
    """The least item of the state that can be learned next, where not the whole state is done."""
    for item in items_of(state ^ done):
        if can_follow(books, item, done):
            return item
    return None


def states_within(one, other):
    """Whether every state of one book is a state of the other one."""
    # If not, some order of both can be continued by an item in one of them only.
    for item, ways in enumerate(one):
        for way in ways:
            # Most ways have a way of the other book within them, and need no search.
            if not has_way(other[item], way) and gap_between(one, other, item, way) is not None:
                return False
    return True


def gap_between(one, other, item, way):
    """The items of a common order that the item can follow by its way in one book, but not in the other; or None."""
    return gap_in((one, other), other[item], all_items(len(one)) ^ (1 << item), way)


def gap_in(books, ways, allowed, wanted):
    """The allowed items of a common order with all wanted ones, but with none of the ways; or None."""
    reached = greatest_in(books, allowed)
    if not lies_within(wanted, reached):
        return None
    rest = shortest_rest(ways, reached, wanted)
    if rest is None:
        return reached
    # Such an order lacks an item of that way. Each turn takes the first one that it lacks,
    # so the ones before are wanted, too, and no order is looked for twice.
    held = wanted
    for lacking in rest:
        gap = gap_in(books, ways, reached ^ (1 << lacking), held)
        if gap is not None:
            return gap
        held = held | (1 << lacking)
    return None


def shortest_rest(ways, reached, wanted):
    """Of the ways within the reached items, the one with the fewest items that are not wanted: these items."""
    best = None
    for way in ways:
        if lies_within(way, reached):
            rest = items_of(way & (reached ^ wanted))
            if best is None or len(rest) < len(best):
                best = rest
    return best
