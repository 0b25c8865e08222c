"""Histories: whether what is told of a weave of transactions is right, and in which rows it is so."""

from weavestore.asking import fresh
from weavestore.courses import Course, are_events, fresh_events
from weavestore.errors import InvalidCount, InvalidHistory, Refused
from weavestore.kinds import is_count, is_count_below


def is_history(value):
    """Returns whether any object is a history, by its form alone."""
    return are_events(value)


def course_of(history):
    """The plain row of a history; raises InvalidHistory unless it is one."""
    if not are_events(history):
        raise InvalidHistory(history)
    return Course(history)


def right_course(history):
    """The plain row of a right history; raises InvalidHistory, then Refused unless it is one."""
    course = course_of(history)
    if course.wrong is not None:
        raise Refused(history)
    return course


def is_right(history):
    """Returns whether each event of a history can come and tells what the plain row tells."""
    return first_wrong(history) is None


def first_wrong(history):
    """Returns the place of the first event that is not right, None if there is none."""
    return course_of(history).wrong


def right_event(history):
    """Returns the first wrong event as it would be right, None if there is none, or if no answer would help."""
    return fresh(course_of(history).right)


def states_of(history):
    """Returns the list of the states of the commits that are there at the end, from 0 on."""
    course = right_course(history)
    return [course.state(commit) for commit in range(course.weave.newest() + 1)]


def standing_of(history):
    """Returns the number of the commit that stands at the end."""
    return right_course(history).weave.standing()


def fates(history):
    """Returns the dictionary from the transactions to what became of each."""
    return {place: fresh(fate) for place, fate in right_course(history).fates.items()}


def told_places(history):
    """Returns the dictionary from the lasting transactions to the first events behind which they may be told."""
    return right_course(history).told_places()


def row_of(history):
    """Returns the row in which the committed ones stand by their numbers, the ended ones behind their snapshots."""
    course = right_course(history)
    ranks = []
    for place in course.lasting():
        word, number = course.fates[place]
        ranks.append((number, word == "ended", place))
    return [rank[2] for rank in sorted(ranks)]


def rows_onward(course, told, row, state):
    """The ascending list of all rows that go on from one and a state behind it, by the places told."""
    left = [place for place in told if place not in row]
    if not left:
        return [row] if state == course.state(course.weave.newest()) else []
    found = []
    for place in left:
        early = [other for other in left if told[other] is not None and told[other] < place]
        late = course.behind(state, place)
        if not early and late is not None:
            found.extend(rows_onward(course, told, row + [place], late))
    return found


def is_row(history, value):
    """Returns whether any object is a row of a history."""
    course = right_course(history)
    told = course.told_places()
    if not isinstance(value, list) or not all([is_count(place) for place in value]):
        return False
    if sorted(value) != course.lasting():
        return False
    state = {}
    for at, place in enumerate(value):
        if any([told[other] is not None and told[other] < place for other in value[at + 1 :]]):
            return False
        state = course.behind(state, place)
        if state is None:
            return False
    return state == course.state(course.weave.newest())


def all_rows(history):
    """Returns the ascending list of all rows of a history."""
    course = right_course(history)
    return rows_onward(course, course.told_places(), [], {})


def falls_of(history):
    """Returns the ascending list of the tuples (place, number) of all falls that could come."""
    found = []
    for place, (standing, newest) in enumerate(right_course(history).bounds):
        found.extend([(place, number) for number in range(standing, newest + 1)])
    return found


def with_fall(history, place, number):
    """Returns the history of the events ahead of a place and a fall that leaves so many commits."""
    if not are_events(history):
        raise InvalidHistory(history)
    if not is_count_below(place, len(history) + 1):
        raise InvalidCount(place)
    if not is_count(number):
        raise InvalidCount(number)
    standing, newest = right_course(history).bounds[place]
    if not standing <= number <= newest:
        raise InvalidCount(number)
    return fresh_events(history[:place]) + [("fall", number)]


def kept_by(history, place, number):
    """Returns the ascending list of the lasting transactions of a history with a fall."""
    return Course(with_fall(history, place, number)).lasting()
