"""Little programs of writers: their forms, what one does over a state, and all rows in which some of them commit."""

from weavestore.asking import told_in
from weavestore.keys import BEHIND_COUNTS, MOST_IN_THING, is_worth, with_writes
from weavestore.kinds import is_count, is_count_from_one, is_tuple_of, is_word
from weavestore.plain import is_answer, is_plain_key, is_plain_question, is_same

LENGTHS = {"ask": 3, "put": 3, "drop": 2, "unless": 4}


def is_part(value):
    """Whether any object is a part of an expression."""
    if is_worth(value):
        return True
    if is_tuple_of(value, 2):
        return value[0] == "box" and is_word(value[1])
    return is_tuple_of(value, 3) and value[0] == "more" and is_word(value[1]) and is_count(value[2])


def is_expression(value):
    """Whether any object is an expression."""
    return isinstance(value, tuple) and len(value) <= MOST_IN_THING and all([is_part(part) for part in value])


def is_step(value, left):
    """Whether any object is a step behind which so many others stand."""
    if not isinstance(value, tuple) or not value or not isinstance(value[0], str) or value[0] not in LENGTHS:
        return False
    word = value[0]
    if len(value) != LENGTHS[word]:
        return False
    if word == "ask":
        return is_word(value[1]) and is_plain_question(value[2])
    if word == "put":
        return is_plain_key(value[1]) and is_expression(value[2])
    if word == "drop":
        return is_plain_key(value[1])
    return is_word(value[1]) and is_answer(value[2]) and is_count_from_one(value[3]) and value[3] <= left


def are_steps(value):
    """Whether any object is a program."""
    if not isinstance(value, list) or not value:
        return False
    return all([is_step(step, len(value) - at - 1) for at, step in enumerate(value)])


def are_programs(value):
    """Whether any object is a list, not empty, of programs."""
    return isinstance(value, list) and len(value) > 0 and all([are_steps(program) for program in value])


def number_of_answer(told):
    """The number of what a box holds."""
    if told is True:
        return 1
    if is_count(told):
        return told
    if isinstance(told, list):
        return len(told)
    if isinstance(told, tuple) and told != ():
        # A key with a thing has a tuple in its first place; its number is that of the thing.
        return number_of_answer(told[1]) if isinstance(told[0], tuple) else number_of_first(told[0])
    return 0


def number_of_first(part):
    """The number of a thing by its first place."""
    return part if is_count(part) else 0


def worth_of(part, boxes):
    """What a part of an expression is, by what the boxes hold."""
    if not isinstance(part, tuple):
        return part
    number = number_of_answer(boxes.get(part[1]))
    if part[0] == "more":
        number = number + part[2]
    return min(number, BEHIND_COUNTS - 1)


class Deeds:
    """What a program does when it begins over a state: its looks, its own writes, and how many turns it takes.

    A look is a tuple of a question, of what it told, and of the own writes of its moment.
    """

    def __init__(self, state, program):
        self.looks = []
        self.writes = {}
        # Its begin and its end take a turn each.
        self.turns = 2
        boxes = {}
        at = 0
        while at < len(program):
            step = program[at]
            at = at + 1
            if step[0] == "unless":
                if not is_same(boxes.get(step[1]), step[2]):
                    at = at + step[3]
            else:
                self.turns = self.turns + 1
                self.do(state, step, boxes)

    def do(self, state, step, boxes):
        """Does one step that is no leap."""
        if step[0] == "ask":
            told = told_in(with_writes(state, self.writes), step[2])
            boxes[step[1]] = told
            self.looks.append((step[2], told, self.writes))
        elif step[0] == "put":
            self.writes = {**self.writes, step[1]: tuple([worth_of(part, boxes) for part in step[2]])}
        else:
            self.writes = {**self.writes, step[1]: None}

    def turned_at(self, state):
        """The place of the first look that tells otherwise over a state, None if there is none."""
        for place, (question, elder, writes) in enumerate(self.looks):
            if not is_same(elder, told_in(with_writes(state, writes), question)):
                return place
        return None


class CommitRows:
    """All rows in which some of the programs can commit one after the other, and what each does behind them.

    Whether an attempt of a program is refused hangs alone on how many commits there are at its begin and at its end,
    so a row of commits tells all that any order that leads to it may do.
    """

    def __init__(self, state, programs):
        self.programs = programs
        self.states = {(): state}
        self.attempts = {}
        ahead = [()]
        while ahead:
            row = ahead.pop()
            self.attempts[row] = [Deeds(self.states[row], program) for program in programs]
            for place in range(len(programs)):
                if place not in row and self.attempts[row][place].writes:
                    late = (*row, place)
                    self.states[late] = with_writes(self.states[row], self.attempts[row][place].writes)
                    ahead.append(late)

    def ends(self, row, place):
        """The ascending list of how many commits of a row there may be where a program begins that ends unwritten."""
        return [many for many in range(len(row) + 1) if not self.attempts[row[:many]][place].writes]

    def whole_rows(self):
        """The ascending list of the rows of commits behind which all others can end without writes."""
        found = []
        for row in sorted(list(self.attempts)):
            others = [place for place in range(len(self.programs)) if place not in row]
            if all([self.ends(row, place) != [] for place in others]):
                found.append(row)
        return found

    def is_refused(self, row, place, begin, end):
        """Whether a program that begins behind so many commits of a row and ends behind so many is refused."""
        attempt = self.attempts[row[:begin]][place]
        return len(attempt.writes) > 0 and attempt.turned_at(self.states[row[:end]]) is not None

    def refusals(self, row, place, bound):
        """A longest list of tuples (begin, end) of refused attempts, one behind the other, up to so many commits.

        The attempt that ends first leaves the most for the others, and of those that end at one place any will do.
        """
        found = []
        last = 0
        for end in range(1, bound + 1):
            begins = [begin for begin in range(last, end) if self.is_refused(row, place, begin, end)]
            if begins:
                found.append((begins[0], end))
                last = end
        return found

    def last_begin(self, row, place):
        """The greatest number of commits of a row where the last attempt of a program may begin."""
        if place in row:
            return row.index(place)
        return self.ends(row, place)[-1]

    def all_refusals(self, row):
        """The list, program by program, of the longest lists of refused attempts in a whole row."""
        places = range(len(self.programs))
        return [self.refusals(row, place, self.last_begin(row, place)) for place in places]
