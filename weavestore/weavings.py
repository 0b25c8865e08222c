"""Weavings: all that little programs can do, whatever is woven."""

from itertools import permutations

from weavestore.asking import fresh
from weavestore.errors import InvalidOrder, InvalidPrograms
from weavestore.keys import by_keys, with_writes
from weavestore.kinds import is_count_below
from weavestore.needs import need_state
from weavestore.programs import CommitRows, Deeds, are_programs, are_steps


def is_program(value):
    """Returns whether any object is a program."""
    return are_steps(value)


def need_programs(state, programs):
    """Raises InvalidState, then InvalidPrograms, unless they are a state and a list of programs."""
    need_state(state)
    if not are_programs(programs):
        raise InvalidPrograms(programs)


def done_alone(state, program):
    """Returns the tuple of the looks and of the own writes of a program done alone over a state."""
    need_state(state)
    if not are_steps(program):
        raise InvalidPrograms(program)
    deeds = Deeds(state, program)
    return ([(question, fresh(told)) for question, told, writes in deeds.looks], by_keys(deeds.writes))


def state_behind(state, programs, row):
    """The state behind programs done alone one after the other."""
    for place in row:
        state = with_writes(state, Deeds(state, programs[place]).writes)
    return by_keys(state)


def are_places(programs, value):
    """Whether any object is a list of places of programs."""
    return isinstance(value, list) and all([is_count_below(place, len(programs)) for place in value])


def behind_row(state, programs, row):
    """Returns the state behind programs done alone one after the other."""
    need_programs(state, programs)
    if not are_places(programs, row) or len(set(row)) < len(row):
        raise InvalidOrder(row)
    return state_behind(state, programs, row)


class Weaving:
    """What is done by an order of turns: who is under way, who is done, the refusals, and the state by now."""

    def __init__(self, state, programs):
        self.now = state
        self.programs = programs
        self.commits = 0
        self.doing = {}
        self.ranks = {}
        self.refused = []

    def turn(self, place):
        """Lets a program that is not done have one turn."""
        if place not in self.doing:
            deeds = Deeds(self.now, self.programs[place])
            self.doing[place] = (deeds, self.commits, deeds.turns - 1)
            return
        deeds, snapshot, left = self.doing[place]
        if left > 1:
            self.doing[place] = (deeds, snapshot, left - 1)
            return
        del self.doing[place]
        self.end(place, deeds, snapshot)

    def end(self, place, deeds, snapshot):
        """Ends a program: commits it, or lets it end without writes, or refuses it."""
        if not deeds.writes:
            self.ranks[place] = (snapshot, len(self.ranks) + 1)
            return
        turned = deeds.turned_at(self.now)
        if turned is not None:
            self.refused.append((place, turned))
            return
        self.now = with_writes(self.now, deeds.writes)
        self.commits = self.commits + 1
        # A committed one stands ahead of all whose snapshot is its commit.
        self.ranks[place] = (self.commits, 0)

    def row(self):
        """The list of the programs that are done."""
        return sorted(list(self.ranks), key=lambda place: self.ranks[place])


def weaving_of(state, programs, order):
    """What is done by an order of places of programs, None if it is not whole."""
    weaving = Weaving(state, programs)
    for place in order:
        if place in weaving.ranks:
            return None
        weaving.turn(place)
    if len(weaving.ranks) < len(programs):
        return None
    return weaving


def woven(state, programs, order):
    """Returns the tuple of the programs by their places, of the refusals, and of the last state of a whole order."""
    need_programs(state, programs)
    weaving = weaving_of(state, programs, order) if are_places(programs, order) else None
    if weaving is None:
        raise InvalidOrder(order)
    return (weaving.row(), weaving.refused, by_keys(weaving.now))


def all_rows_of(programs):
    """The ascending list of all rows of all programs."""
    return [list(row) for row in permutations(range(len(programs)))]


def endings(state, programs):
    """Returns the list of the unlike last states of all whole orders, by the first rows that lead to them."""
    need_programs(state, programs)
    found = []
    for row in all_rows_of(programs):
        late = state_behind(state, programs, row)
        if late not in found:
            found.append(late)
    return found


def rows_to(state, programs, ending):
    """Returns the ascending list of all rows of all programs behind which a state is the told one."""
    need_programs(state, programs)
    need_state(ending)
    return [row for row in all_rows_of(programs) if state_behind(state, programs, row) == ending]


def most_of(commits):
    """The tuple of the greatest number of refusals and of a row of commits that has so many."""
    rows = commits.whole_rows()
    many = [sum([len(attempts) for attempts in commits.all_refusals(row)]) for row in rows]
    return (max(many), rows[many.index(max(many))])


def most_refusals(state, programs):
    """Returns the greatest number of refusals in any whole order."""
    need_programs(state, programs)
    return most_of(CommitRows(state, programs))[0]


def turns_of(commits, row, place, begin):
    """The turns of an attempt of a program that begins behind so many commits, but for its end."""
    return [place] * (commits.attempts[row[:begin]][place].turns - 1)


def order_with(commits, row, refused):
    """A whole order with a row of commits and with refused attempts of each program."""
    order = []
    places = range(len(commits.programs))
    for many in range(len(row) + 1):
        order.extend([place for place in places for begin, end in refused[place] if end == many])
        for place in places:
            for begin, end in refused[place]:
                if begin == many:
                    order.extend(turns_of(commits, row, place, begin))
        for place in places:
            # The others end here without writes; the one that commits does so behind all else.
            if place not in row and commits.last_begin(row, place) == many:
                order.extend(turns_of(commits, row, place, many) + [place])
        if many < len(row):
            order.extend(turns_of(commits, row, row[many], many) + [row[many]])
    return order


def refusing_order(state, programs):
    """Returns any whole order with the greatest number of refusals."""
    need_programs(state, programs)
    commits = CommitRows(state, programs)
    row = most_of(commits)[1]
    return order_with(commits, row, commits.all_refusals(row))


def is_refusing_order(state, programs, value):
    """Returns whether any object is a whole order with the greatest number of refusals."""
    need_programs(state, programs)
    if not are_places(programs, value):
        return False
    weaving = weaving_of(state, programs, value)
    return weaving is not None and len(weaving.refused) == most_of(CommitRows(state, programs))[0]


def never_refused(state, programs):
    """Returns the ascending list of the places of the programs that no whole order refuses."""
    need_programs(state, programs)
    commits = CommitRows(state, programs)
    told = [commits.all_refusals(row) for row in commits.whole_rows()]
    return [place for place in range(len(programs)) if not any([attempts[place] for attempts in told])]


def with_one_more(commits, row, place, gaps):
    """The lists of gaps to which one program comes more that does not commit, and begins only once.

    A gap is the list of the programs that end behind so many commits, in the order of their ends.
    """
    found = []
    for many in commits.ends(row, place):
        gap = gaps[many]
        for at in range(len(gap) + 1):
            found.append([*gaps[:many], [*gap[:at], place, *gap[at:]], *gaps[many + 1 :]])
    if commits.refusals(row, place, len(row)):
        found.append(gaps)
    return found


def rows_done_once(commits, row):
    """The list of the rows, with those that end without writes, that come of a row of commits."""
    choices = [[[] for _ in range(len(row) + 1)]]
    for place in range(len(commits.programs)):
        if place not in row:
            choices = [late for gaps in choices for late in with_one_more(commits, row, place, gaps)]
    found = []
    for gaps in choices:
        told = list(gaps[0])
        for place, gap in zip(row, gaps[1:]):
            told.extend([place, *gap])
        found.append(tuple(told))
    return found


def once_rows(state, programs):
    """Returns the ascending list of all rows in which programs commit or end if refused ones do not begin again."""
    need_programs(state, programs)
    commits = CommitRows(state, programs)
    found = [told for row in sorted(list(commits.attempts)) for told in rows_done_once(commits, row)]
    return [list(told) for told in sorted(set(found))]
