"""What the document says, word by word and without any cleverness, and courses to try it on."""

import random
from itertools import combinations

from learnways.courses import Course

SHORT = (((),), ((0,),), ((0,),), ((1,), (2,)), ((3,),))


def all_sets(n):
    """All sets of items of a course with n items."""
    return [items for size in range(n + 1) for items in combinations(range(n), size)]


def tidy_by_words(entry):
    """The tidy form of the ways of one item."""
    different = set(entry)
    least = [way for way in different if not any(set(other) < set(way) for other in different)]
    return tuple(sorted(least, key=lambda way: (len(way), way)))


def has_way_by_words(entry, done):
    return any(set(way) <= set(done) for way in entry)


def is_order_by_words(ways, items):
    """Whether a tuple of items is an order."""
    return len(set(items)) == len(items) and all(
        has_way_by_words(ways[item], items[:place]) for place, item in enumerate(items)
    )


def orders_by_words(ways, start=()):
    """All orders of the ways that begin with start, the first ones first."""
    yield start
    for item in range(len(ways)):
        if item not in start and has_way_by_words(ways[item], start):
            yield from orders_by_words(ways, (*start, item))


def states_by_words(ways):
    """All states, as a set of sets: each one but the empty one is an item more than another one."""
    found = {()}
    fresh = [()]
    while fresh:
        state = fresh.pop()
        for item in range(len(ways)):
            more = tuple(sorted({*state, item}))
            if more not in found and has_way_by_words(ways[item], state):
                found.add(more)
                fresh.append(more)
    return found


def ready_by_words(ways, state):
    return tuple(q for q in range(len(ways)) if q not in state and has_way_by_words(ways[q], state))


def greatest_by_words(states, avoided):
    """The state without avoided items that contains every other one."""
    free = [state for state in states if not set(state) & set(avoided)]
    best = max(free, key=len)
    assert all(set(state) <= set(best) for state in free)
    return best


def random_way(rng, pool, most):
    return tuple(sorted(rng.sample(pool, rng.randint(0, min(most, len(pool))))))


def random_entry(rng, item, n, style):
    """Up to 5 ways of up to 5 items for one item."""
    lower = list(range(item))
    others = [other for other in range(n) if other != item]
    if style == "chain":
        return ((item - 1,),) if item else ((),)
    pool = lower if style == "lower" else others
    ways = [random_way(rng, pool, 5) for _ in range(rng.choice((0, 1, 1, 2, 2, 3, 4, 5)))]
    if style == "nested" and ways:
        longest = max(ways, key=len)
        ways = [longest[:rng.randint(0, len(longest))] for _ in ways]
    if style == "equal":
        ways = [rng.choice(ways) for _ in ways]
    if not lower or rng.random() < 0.15:
        ways = [*ways[:4], ()] if rng.random() < 0.8 else ways
    rng.shuffle(ways)
    return tuple(ways)


STYLES = ("chain", "lower", "any", "nested", "equal", "mixed", "mixed", "lower")


def random_ways(rng, n):
    """A book of ways as callers pass it."""
    style = rng.choice(STYLES)
    return tuple(
        random_entry(rng, item, n, rng.choice(("lower", "any", "nested", "equal")) if style == "mixed" else style)
        for item in range(n)
    )


def books(seed, many, most=6, least=1):
    """Many books of ways with least to most items, the same ones for each seed."""
    rng = random.Random(seed)
    return [random_ways(rng, rng.randint(least, most)) for _ in range(many)]


def courses(seed, many, most=6, least=1):
    return [Course(ways) for ways in books(seed, many, most, least)]


def layered(seed, many, most=6, least=2):
    """Courses in which each item can be learned, most of them after lower ones only."""
    rng = random.Random(seed)
    found = []
    for _ in range(many):
        n = rng.randint(least, most)
        found.append(Course(tuple(
            tuple(random_way(rng, list(range(item)), 3) or ((item - 1,) if item > 1 else ())
                  for _ in range(rng.randint(1, 3)))
            for item in range(n)
        )))
    return found


def odd_values(course):
    """Values that are neither items nor sets of items nor courses."""
    n = len(course)
    return [
        None, True, False, -1, n, n + 1, 24, 10 ** 11, -10 ** 11, "", "0", "0, 1", b"\x00",
        [], [0], [[0]], {}, {0: 0}, {0: True}, (True,), (False,), (False, 1), (0, True), (None,), ("0",), ((),), ((0,),),
        ([0],), (0, 0), (1, 0), (-1,), (-1, 0), (n,), (0, n), (0, 10 ** 11), (course,), ({},), [course],
        ((((((((((((0,),),),),),),),),),),),), (0, (1,)), tuple(range(n + 1)), (*range(n), 0),
    ]
