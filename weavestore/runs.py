"""Runs of writes, barriers and tellings, and what has to stand in them ahead of what."""

from weavestore.errors import InvalidMoment, InvalidRun
from weavestore.kinds import ascends, is_count, is_count_below, is_tuple_of


def is_event(value):
    """Whether any object is an event of a run."""
    if value == ("barrier",) or value == ("tell",):
        return True
    return is_tuple_of(value, 2) and value[0] == "write" and is_count(value[1])


def are_events(value):
    """Whether any object is a list, not empty, of events."""
    return isinstance(value, list) and len(value) > 0 and all([is_event(event) for event in value])


def need_run(run):
    """Raises InvalidRun unless it is a run."""
    if not are_events(run):
        raise InvalidRun(run)


def need_bare_run(run):
    """Raises InvalidRun unless it is a run without barriers."""
    if not are_events(run) or ("barrier",) in run:
        raise InvalidRun(run)


def is_wait_of(run, value):
    """Whether any object is a wait of a run."""
    if not is_tuple_of(value, 2) or not all([is_count_below(place, len(run)) for place in value]):
        return False
    early, late = value
    if early >= late or run[early][0] != "write":
        return False
    return run[late][0] == "tell" or (run[late][0] == "write" and run[late][1] != run[early][1])


def are_waits_of(run, value):
    """Whether any object is an ascending list of unlike waits of a run."""
    return isinstance(value, list) and all([is_wait_of(run, wait) for wait in value]) and ascends(value)


def need_waits(run, waits):
    """Raises InvalidMoment unless they are an ascending list of unlike waits of a run."""
    if not are_waits_of(run, waits):
        raise InvalidMoment(waits)


def barriers_ahead(run):
    """The list that tells for each place of a run how many barriers stand ahead of it."""
    found = []
    many = 0
    for event in run:
        found.append(many)
        if event == ("barrier",):
            many = many + 1
    return found


def kept_waits(run, waits):
    """The list of the waits with a barrier between."""
    ahead = barriers_ahead(run)
    return [(early, late) for early, late in waits if ahead[early] < ahead[late]]


def broken_waits(run, waits):
    """The list of the waits without a barrier between."""
    ahead = barriers_ahead(run)
    return [(early, late) for early, late in waits if ahead[early] == ahead[late]]


def apart_of(waits):
    """Waits whose stretches are apart, such that a barrier at the end of each is enough for all.

    The wait that ends first wants a barrier, and none serves as many others as the last one that
    serves it.
    """
    found = []
    last = 0
    for early, late in sorted(waits, key=lambda wait: wait[1]):
        if early >= last:
            found.append((early, late))
            last = late
    return found


def ends_of(waits):
    """The fewest places, each the greatest, such that one lies in the stretch of each wait."""
    return [late for early, late in apart_of(waits)]


def many_fewest(waits, many):
    """How many lists of the fewest places there are, of so many, such that one lies in each stretch.

    A list is a way from the start, which is place 0, over its places to the end, each step leaping
    over no whole stretch; the shortest ways are counted, from the end on.
    """
    steps = [0] * (many + 1)
    ways = [1] * (many + 1)
    for place in reversed(range(many)):
        onward = list(range(place + 1, reach_from(waits, place, many) + 1))
        fewest = min([steps[at] for at in onward])
        steps[place] = fewest + 1
        ways[place] = sum([ways[at] for at in onward if steps[at] == fewest])
    return ways[0]


def reach_from(waits, place, many):
    """The greatest place that can be next behind one; the number of places stands for the end."""
    return min([late for early, late in waits if early >= place], default=many)
