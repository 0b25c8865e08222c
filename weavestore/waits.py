"""The order in which writes must stand, and the fewest barriers that keep it."""

from weavestore.errors import InvalidMoment, InvalidOrder
from weavestore.kinds import are_ascending_below, are_ascending_counts, is_count, is_count_below, is_tuple_of
from weavestore.runs import apart_of, are_events, are_waits_of, barriers_ahead, broken_waits, ends_of, is_wait_of
from weavestore.runs import kept_waits, many_fewest, need_bare_run, need_run, need_waits


def is_run(value):
    """Returns whether any object is a run."""
    return are_events(value)


def are_waits(run, value):
    """Returns whether any object is an ascending list of unlike waits of a run."""
    need_run(run)
    return are_waits_of(run, value)


def may_stand(run, moment):
    """Returns the dictionary from the cells written by then to the places of the writes that may stand there."""
    need_run(run)
    if not is_count_below(moment, len(run) + 1):
        raise InvalidMoment(moment)
    return standing_places(run, moment)


def standing_places(run, moment):
    """The dictionary from cells to places of writes of which any one may stand at a moment of a run."""
    held = {}
    for place, event in enumerate(run[:moment]):
        if event[0] == "write":
            held[event[1]] = held.get(event[1], [None]) + [place]
        if event[0] == "barrier":
            held = {cell: places[-1:] for cell, places in held.items()}
    return {cell: held[cell] for cell in sorted(held)}


def is_picture_of(held, value):
    """Whether any object is a dictionary from just the cells that are held to one place each."""
    if not isinstance(value, dict) or len(value) != len(held):
        return False
    for cell, place in value.items():
        if not is_count(cell) or cell not in held:
            return False
        if place is not None and not is_count(place):
            return False
        if place not in held[cell]:
            return False
    return True


def is_moment_picture(run, moment, value):
    """Returns whether any object is a picture of a moment of a run."""
    return is_picture_of(may_stand(run, moment), value)


def need_wait(run, wait):
    """Raises InvalidRun, then InvalidMoment unless it is a wait of a run."""
    need_run(run)
    if not is_wait_of(run, wait):
        raise InvalidMoment(wait)


def is_kept(run, wait):
    """Returns whether what was written first stands ahead of what waits, wherever the power falls."""
    need_wait(run, wait)
    return kept_waits(run, [wait]) == [wait]


def why_broken(run, wait):
    """Returns a moment and a picture of it that break a wait, None if it is kept."""
    if is_kept(run, wait):
        return None
    late = wait[1]
    held = standing_places(run, late + 1)
    picture = {cell: places[0] for cell, places in held.items()}
    if run[late][0] == "write":
        picture[run[late][1]] = late
    return (late + 1, picture)


def is_why_broken(run, wait, value):
    """Returns whether any object is a moment and a picture of it that break a wait."""
    need_wait(run, wait)
    if not is_tuple_of(value, 2) or not is_count_below(value[0], len(run) + 1):
        return False
    moment, picture = value
    early, late = wait
    if moment <= late or not is_picture_of(standing_places(run, moment), picture):
        return False
    if run[late][0] == "write" and picture[run[late][1]] != late:
        return False
    stands = picture[run[early][1]]
    return stands is None or stands < early


def broken(run, waits):
    """Returns the list of the waits that are not kept."""
    need_run(run)
    need_waits(run, waits)
    return broken_waits(run, waits)


def need_places(run, places):
    """Raises InvalidMoment unless they are an ascending list of unlike places of a run."""
    if not are_ascending_below(places, len(run)):
        raise InvalidMoment(places)


def is_enough(run, waits, places):
    """Returns whether all waits are kept with barriers put in."""
    need_run(run)
    need_waits(run, waits)
    need_places(run, places)
    events, moved = with_these(run, waits, places)
    return broken_waits(events, moved) == []


def with_these(run, waits, places):
    """The tuple of the run with barriers put in, and of its waits by their new places."""
    put_in = set(places)
    events = []
    moved = []
    for place, event in enumerate(run):
        if place in put_in:
            events.append(("barrier",))
        moved.append(len(events))
        events.append(event)
    return events, [(moved[early], moved[late]) for early, late in waits]


def barriers_for(run, waits):
    """Returns the list with the fewest places that is enough, each the greatest."""
    need_run(run)
    need_waits(run, waits)
    return ends_of(broken_waits(run, waits))


def many_least(run, waits):
    """Returns how many lists with the fewest places are enough."""
    need_run(run)
    need_waits(run, waits)
    return many_fewest(broken_waits(run, waits), len(run))


def apart_waits(run, waits):
    """Returns as many waits as barriers are wanted, none kept, whose stretches are apart."""
    need_run(run)
    need_waits(run, waits)
    return apart_of(broken_waits(run, waits))


def are_apart(run, waits, value):
    """Returns whether any object is a list of as many waits as barriers are wanted, apart and not kept."""
    fewest = len(barriers_for(run, waits))
    if not are_waits_of(run, value) or len(value) != fewest:
        return False
    left = broken_waits(run, waits)
    if not all([wait in left for wait in value]):
        return False
    return all([one[1] <= other[0] for one, other in zip(value, value[1:])])


def with_barriers(run, places):
    """Returns the run with barriers put in."""
    need_run(run)
    need_places(run, places)
    return with_these(run, [], places)[0]


def waits_then(run, waits, places):
    """Returns the waits by their places in the run with barriers put in."""
    need_run(run)
    need_waits(run, waits)
    need_places(run, places)
    return with_these(run, waits, places)[1]


def bare(run):
    """Returns the list of the events that are no barriers."""
    need_run(run)
    return [event for event in run if event != ("barrier",)]


def places_of_barriers(run):
    """The ascending list of the places of the barriers."""
    return [place for place, event in enumerate(run) if event == ("barrier",)]


def needless(run, waits):
    """Returns the ascending list of the places of the barriers each of which can be left out alone."""
    need_run(run)
    need_waits(run, waits)
    ahead = barriers_ahead(run)
    barriers = places_of_barriers(run)
    wanted = {barriers[ahead[early]]: True for early, late in waits if ahead[late] - ahead[early] == 1}
    return [place for place in barriers if place not in wanted]


def spared(run, waits):
    """Returns the ascending list of the places of the barriers that go if each one is left out that can be."""
    need_run(run)
    need_waits(run, waits)
    kept = kept_waits(run, waits)
    barriers = places_of_barriers(run)
    gone = []
    last = -1
    for place, onward in zip(barriers, barriers[1:] + [len(run)]):
        if any([last < early < place < late < onward for early, late in kept]):
            last = place
        else:
            gone.append(place)
    return gone


def is_order(one, other, value):
    """Whether any object is a list of as many 0 as one run has events, and as many 1 as the other has."""
    if not isinstance(value, list) or not all([is_count_below(turn, 2) for turn in value]):
        return False
    return value.count(0) == len(one) and value.count(1) == len(other)


def need_order(one, other, order):
    """Raises InvalidOrder unless it is an order of two runs."""
    if not is_order(one, other, order):
        raise InvalidOrder(order)


def places_by(order, turn):
    """The ascending list of the places at which an order takes from one run, told by its turn."""
    return [place for place, taken in enumerate(order) if taken == turn]


def woven(one, other, order):
    """Returns the run that comes if the events of two runs are taken by an order."""
    need_bare_run(one)
    need_bare_run(other)
    need_order(one, other, order)
    events = [("tell",)] * len(order)
    for turn, run in enumerate([one, other]):
        for place, event in zip(places_by(order, turn), run):
            events[place] = event
    return events


def moved_waits(waits, late, order):
    """The ascending list of the waits of two runs by their places in the woven one."""
    found = []
    for turn, rows in enumerate([waits, late]):
        places = places_by(order, turn)
        for before, behind in rows:
            found.append((places[before], places[behind]))
    return sorted(found)


def waits_woven(one, waits, other, late, order):
    """Returns the ascending list of the waits of both runs in the woven one."""
    need_two_runs(one, waits, other, late)
    need_order(one, other, order)
    return moved_waits(waits, late, order)


def need_two_runs(one, waits, other, late):
    """Raises what is told for two runs without barriers and their waits."""
    need_bare_run(one)
    need_waits(one, waits)
    need_bare_run(other)
    need_waits(other, late)


def best_order(one, waits, other, late):
    """Returns an order with the fewest barriers: as many as the run has that wants more of them.

    The runs are cut where each wants its barriers, and one barrier serves both behind each cut.
    """
    need_two_runs(one, waits, other, late)
    cuts = ends_of(waits)
    others = ends_of(late)
    many = max(len(cuts), len(others))
    cuts = [0] + cuts + [len(one)] * (many + 1 - len(cuts))
    others = [0] + others + [len(other)] * (many + 1 - len(others))
    order = []
    for place in range(many + 1):
        order.extend([0] * (cuts[place + 1] - cuts[place]))
        order.extend([1] * (others[place + 1] - others[place]))
    return order


def is_best_order(one, waits, other, late, value):
    """Returns whether any object is an order with the fewest barriers."""
    need_two_runs(one, waits, other, late)
    if not is_order(one, other, value):
        return False
    fewest = max(len(ends_of(waits)), len(ends_of(late)))
    return len(ends_of(moved_waits(waits, late, value))) == fewest


def is_due(value):
    """Whether any object is a tuple of two counts, the first one lesser."""
    return is_tuple_of(value, 2) and is_count(value[1]) and is_count_below(value[0], value[1])


def need_due(due):
    """Raises InvalidMoment unless it is a list of tuples of a moment and a greater one."""
    if not isinstance(due, list) or not all([is_due(part) for part in due]):
        raise InvalidMoment(due)


def syncs(due):
    """Returns the list with the fewest moments, each the greatest, at which barriers serve all."""
    need_due(due)
    return ends_of(due)


def served(due, moments):
    """Returns for each moment the positions of the tuples that it is the first to serve."""
    need_due(due)
    if not are_ascending_counts(moments):
        raise InvalidMoment(moments)
    found = [[] for _ in moments]
    for position, (ready, last) in enumerate(due):
        for place in places_between(moments, ready, last)[:1]:
            found[place].append(position)
    return found


def places_between(moments, ready, last):
    """The places in a list of the moments above one and not above another one."""
    return [place for place, moment in enumerate(moments) if ready < moment <= last]
