"""States and orders of small courses, counted and numbered, and what to ask a learner."""

from learnways.answers import check_fit, open_items
from learnways.checks import is_integer, is_item, is_set
from learnways.courses import in_order
from learnways.errors import NoOrder, NoPlace, TooMany
from learnways.masks import all_items, greatest_in, items_of, lies_within, mask_of, ready_items
from learnways.orders import greatest, is_order

MOST_ITEMS = 12
MOST_FOR_QUESTIONS = 6


def check_size(course, limit):
    """Refuses a course with more items than the limit."""
    if len(course) > limit:
        raise TooMany(limit)


def states(course):
    """All states, the shorter ones first, those of equal length in the order of Python."""
    check_size(course, MOST_ITEMS)
    level = [()]
    while level:
        yield from level
        level = next_level(course.book, level)


def next_level(book, level):
    """The states with one item more than those of the level, which are all that have as many items."""
    return in_order([
        items_of(mask_of(state) | (1 << item)) for state in level for item in ready_items(book, mask_of(state))
    ])


def number_of_states(course):
    """How many states there are."""
    return len(list(states(course)))


def endings(course):
    """For each state, as an integer, in how many ways the learning can go on to the greatest state."""
    masks = [mask_of(state) for state in states(course)]
    many = {}
    for mask in masks[::-1]:
        steps = ready_items(course.book, mask)
        # Only the greatest state has no ready item, and there is one way to be there already.
        many[mask] = sum([many[mask | (1 << item)] for item in steps]) if steps else 1
    return many


def number_of_orders(course):
    """How many orders of the greatest state there are."""
    return endings(course)[0]


def order_at(course, place):
    """The order of the greatest state with the number."""
    many = endings(course)
    if not is_integer(place) or not 0 <= place < many[0]:
        raise NoPlace("no number of an order")
    whole = mask_of(greatest(course))
    order = []
    done = 0
    left = place
    while done != whole:
        item, left = next_step(course.book, many, done, left)
        order.append(item)
        done = done | (1 << item)
    return tuple(order)


def next_step(book, many, done, left):
    """The item with which the order goes on that has the number left, and its number among those that do so."""
    for item in ready_items(book, done):
        here = many[done | (1 << item)]
        if left < here:
            return (item, left)
        left = left - here
    return None


def place_of(course, order):
    """The number of the order of the greatest state."""
    many = endings(course)
    if not is_order(course, order) or len(order) != len(greatest(course)):
        raise NoOrder("no order of the items of the greatest state")
    place = 0
    done = 0
    for item in order:
        earlier = [other for other in ready_items(course.book, done) if other < item]
        place = place + sum([many[done | (1 << other)] for other in earlier])
        done = done | (1 << item)
    return place


def best_question(course, yes, no):
    """The least of the items that halve the states that fit best, or None if no item is open."""
    check_size(course, MOST_ITEMS)
    check_fit(course, yes, no)
    masks = [mask_of(state) for state in states(course)]
    fit = [mask for mask in masks if lies_within(mask_of(yes), mask) and mask & mask_of(no) == 0]
    best = None
    least = len(fit)
    for item in range(len(course)):
        # An item that is not open has all states on one side.
        difference = abs(len(fit) - 2 * len(with_item(fit, item)))
        if difference < least:
            best = item
            least = difference
    return best


def with_item(masks, item):
    """Those of the states that have the item."""
    return [mask for mask in masks if (mask >> item) & 1 == 1]


def without_item(masks, item):
    """Those of the states that have not the item."""
    return [mask for mask in masks if (mask >> item) & 1 == 0]


def questions(course):
    """Some question tree with the least depth."""
    check_size(course, MOST_FOR_QUESTIONS)
    return shallowest([mask_of(state) for state in states(course)], len(course), {})[1]


def shallowest(masks, count, grown):
    """The least depth of a tree that tells the states apart, and such a tree; grown keeps them by the states."""
    if len(masks) == 1:
        return (0, items_of(masks[0]))
    key = tuple(masks)
    if key not in grown:
        best = None
        for item in range(count):
            if 0 < len(with_item(masks, item)) < len(masks):
                split = split_at(masks, item, count, grown)
                if best is None or split[0] < best[0]:
                    best = split
        grown[key] = best
    return grown[key]


def split_at(masks, item, count, grown):
    """The same among the trees that ask for the item first."""
    depth, tree = shallowest(with_item(masks, item), count, grown)
    below, other = shallowest(without_item(masks, item), count, grown)
    return (1 + max(int(depth), int(below)), ("ask", item, tree, other))


def is_question_tree(course, yes, no, value):
    """Whether any value is a question tree for the answers."""
    check_fit(course, yes, no)
    reached = greatest_in((course.book,), all_items(len(course)) ^ mask_of(no))
    return tells_apart(course.book, mask_of(yes), reached, value)


def tells_apart(book, wanted, reached, value):
    """The same, where wanted is yes, and reached is the greatest state that fits."""
    if not isinstance(value, tuple):
        return False
    if len(value) != 4 or value[0] != "ask":
        return is_set(value, len(book)) and mask_of(value) == reached and not open_items(book, wanted, reached)
    _, item, tree, other = value
    if not is_item(item, len(book)) or (reached >> item) & 1 == 0:
        return False
    rest = greatest_in((book,), reached ^ (1 << item))
    # Each level has an open item less, so there are not more levels than items.
    if not lies_within(wanted, rest):
        return False
    return tells_apart(book, wanted | (1 << item), reached, tree) and tells_apart(book, wanted, rest, other)
