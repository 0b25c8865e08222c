"""Room in the log: which places of the ring may be written again, and the roots that make room in time."""

from weavestore.errors import Full, InvalidCount, InvalidMoment, InvalidRun
from weavestore.kinds import are_ascending_below, is_count, is_count_below, is_count_from_one, is_tuple_of
from weavestore.needs import need_count, need_count_from_one

LINE = ("line",)
ROOT = ("root",)
PAGE_CELLS = 61
PLACE_CELLS = 20


def is_stand(event):
    """Whether any object is a stand, by its form."""
    return is_tuple_of(event, 2) and event[0] == "stand" and is_count(event[1])


def is_event(event):
    """Whether any object is an event of a life, by its form."""
    return event == LINE or event == ROOT or is_stand(event)


def is_life(value):
    """Returns whether any object is a life."""
    if not isinstance(value, list) or not all([is_event(event) for event in value]):
        return False
    written = 0
    stood = 0
    for event in value:
        if event == LINE:
            written += 1
        elif event != ROOT:
            if not stood <= event[1] <= written:
                return False
            stood = event[1]
    return True


def need_life(life):
    """Raises InvalidRun unless it is a life."""
    if not is_life(life):
        raise InvalidRun(life)


def need_life_and_places(life, places):
    """Raises InvalidRun, then InvalidCount, unless they are a life and a number of places."""
    need_life(life)
    need_count_from_one(places)


def need_moment(life, moment):
    """Raises InvalidRun, then InvalidMoment, unless they are a life and a number of its events."""
    need_life(life)
    if not is_count_below(moment, len(life) + 1):
        raise InvalidMoment(moment)


def numbers_given_up(life):
    """The list, moment by moment, of the last number given up by then."""
    found = [0]
    stood = 0
    for event in life:
        if is_stand(event):
            stood = event[1]
        found.append(stood if event == ROOT else found[-1])
    return found


def line_places(life):
    """The list of the positions of the lines: the first one's, the second one's, .."""
    return [at for at, event in enumerate(life) if event == LINE]


def given_up(life, moment):
    """Returns the last number given up by the first so many events."""
    need_moment(life, moment)
    return numbers_given_up(life)[moment]


def still_needed(life, moment):
    """Returns the ascending list of the numbers of the lines written by then that are not given up."""
    need_moment(life, moment)
    written = life[:moment].count(LINE)
    return list(range(numbers_given_up(life)[moment] + 1, written + 1))


def wanted(life, places):
    """The list of the tuples (number, position) of the lines that may not be written."""
    gone = numbers_given_up(life)
    return [(at + 1, place) for at, place in enumerate(line_places(life)) if at + 1 - places > gone[place]]


def fits(life, places):
    """Returns whether each line may be written."""
    need_life_and_places(life, places)
    return wanted(life, places) == []


def first_full(life, places):
    """Returns the position of the first line that may not be written, None if there is none."""
    need_life_and_places(life, places)
    late = wanted(life, places)
    if not late:
        return None
    return late[0][1]


def least_places(life):
    """Returns the fewest places that fit."""
    need_life(life)
    gone = numbers_given_up(life)
    return max([at + 1 - gone[place] for at, place in enumerate(line_places(life))], default=1)


def spans_of(life, places):
    """The list of the tuples (number, first, last) of lines that want a root, with the events ahead of which
    one helps; None if no root helps one of them."""
    stands = [(at, event[1]) for at, event in enumerate(life) if is_stand(event)]
    found = []
    for number, place in wanted(life, places):
        early = [at for at, stood in stands if stood >= number - places and at < place]
        if not early:
            return None
        found.append((number, early[0] + 1, place))
    return found


def spans_apart(life, places):
    """The spans of lines, ascending, that lie apart, as many as can be, None if no root helps one of them."""
    spans = spans_of(life, places)
    if spans is None:
        return None
    found = []
    for span in spans:
        # The lines ascend, so each span that begins behind the last one chosen is the next to end.
        if not found or span[1] > found[-1][2]:
            found.append(span)
    return found


def roots_for(life, places):
    """Returns the list of the fewest positions of roots that make it fit, the greatest, None if none do."""
    need_life_and_places(life, places)
    spans = spans_apart(life, places)
    if spans is None:
        return None
    return [last for number, first, last in spans]


def apart_lines(life, places):
    """Returns an ascending list of lines, each of which wants a root of its own."""
    need_life_and_places(life, places)
    spans = spans_apart(life, places)
    if spans is None:
        raise Full(places)
    return [number for number, first, last in spans]


def are_apart_lines(life, places, value):
    """Returns whether any object is an ascending list of lines, each of which wants a root of its own."""
    need_life_and_places(life, places)
    apart = spans_apart(life, places)
    if apart is None or not isinstance(value, list) or len(value) != len(apart):
        return False
    spans = {number: (first, last) for number, first, last in spans_of(life, places)}
    if not all([is_count(number) and number in spans for number in value]):
        return False
    # The events of a later line come later, so numbers whose stretches lie apart in this order ascend.
    return all([spans[one][1] < spans[other][0] for one, other in zip(value, value[1:])])


def with_roots(life, positions):
    """Returns the life with one root more ahead of each event of a list of positions."""
    need_life(life)
    if not are_ascending_below(positions, len(life)):
        raise InvalidMoment(positions)
    found = []
    for at, event in enumerate(life):
        if at in positions:
            found.append(ROOT)
        found.append(event)
    return found


def is_enough_with(life, places, roots):
    """Whether so many places fit with at most so many roots put in."""
    spans = spans_apart(life, places)
    return spans is not None and len(spans) <= roots


def places_with(life, roots):
    """Returns the fewest places that fit if at most so many roots are put in."""
    need_life(life)
    need_count(roots)
    low = 1
    high = max(1, life.count(LINE))
    # What fits with some places fits with more of them, and as many as there are lines always fit.
    while low < high:
        middle = (low + high) // 2
        if is_enough_with(life, middle, roots):
            high = middle
        else:
            low = middle + 1
    return low


def need_two_counts(one, other):
    """Raises InvalidCount for the first one that is no count of at least 1."""
    for number in [one, other]:
        if not is_count_from_one(number):
            raise InvalidCount(number)


def disc_cells(pages, places):
    """Returns how many cells a store wants."""
    need_two_counts(pages, places)
    return PAGE_CELLS * pages + PLACE_CELLS * places


def most_places(cells, pages):
    """Returns how many places a disc of so many cells has room for beside the pages."""
    need_two_counts(cells, pages)
    return max(0, (cells - PAGE_CELLS * pages) // PLACE_CELLS)
