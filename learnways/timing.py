"""How soon items can be learned."""

from learnways.checks import is_integer
from learnways.errors import NoDurations
from learnways.masks import lies_within, mask_of
from learnways.orders import is_order

LONGEST = 1000000


def is_duration(value):
    """Whether the value is the duration of one item."""
    return is_integer(value) and 0 <= value <= LONGEST


def check_durations(course, durations):
    """Refuses what is no tuple with a duration for each item."""
    if not isinstance(durations, tuple) or len(durations) != len(course):
        raise NoDurations("no tuple with an entry for each item")
    if not all([is_duration(duration) for duration in durations]):
        raise NoDurations("no durations")


def finish(duration, way, times):
    """When an item that is learned by the way is finished, or None if an item of the way has no time."""
    for item in way:
        if times[item] is None:
            return None
    return duration + max([int(times[item]) for item in way], default=0)


def soonest(course, durations, times):
    """Of the items without a time, the one that can be finished first, and when; or None."""
    best = None
    for item, entry in enumerate(course.ways):
        if times[item] is None:
            for way in entry:
                time = finish(durations[item], way, times)
                if time is not None and (best is None or time < best[1]):
                    best = (item, time)
    return best


def timetable(course, durations):
    """The times of the items, and an order in which they can be learned at these times."""
    check_durations(course, durations)
    times = [None for _ in durations]
    order = []
    # What is finished first among all that can go on cannot be finished sooner by what is finished later.
    step = soonest(course, durations, times)
    while step is not None:
        item, time = step
        times[item] = time
        order.append(item)
        step = soonest(course, durations, times)
    return (tuple(times), tuple(order))


def is_timetable(course, durations, value):
    """Whether any value is a timetable for the durations."""
    check_durations(course, durations)
    if not isinstance(value, tuple) or len(value) != 2:
        return False
    times, order = value
    if not are_times(times, len(course)) or not is_order(course, order):
        return False
    if mask_of(order) != mask_of([item for item, time in enumerate(times) if time is not None]):
        return False
    return are_reached(course, durations, times, order) and are_soonest(course, durations, times)


def are_times(value, count):
    """Whether any value is a tuple with an integer or None for each item."""
    if not isinstance(value, tuple) or len(value) != count:
        return False
    return all([time is None or is_integer(time) for time in value])


def are_reached(course, durations, times, order):
    """Whether each item of the order has its time by a way within the items ahead of it."""
    done = 0
    for item in order:
        ahead = [way for way in course.ways[item] if lies_within(mask_of(way), done)]
        if times[item] not in [finish(durations[item], way, times) for way in ahead]:
            return False
        done = done | (1 << item)
    return True


def are_soonest(course, durations, times):
    """Whether no item can be finished sooner by one of its ways."""
    for item, entry in enumerate(course.ways):
        for way in entry:
            time = finish(durations[item], way, times)
            if time is not None and (times[item] is None or times[item] > time):
                return False
    return True
