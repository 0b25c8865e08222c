"""Histories as events: their forms, and the plain row that lets them come one after the other."""

from weavestore.asking import fresh, told_in
from weavestore.errors import InvalidKind, InvalidName, InvalidSnapshot
from weavestore.keys import is_thing, with_writes
from weavestore.kinds import is_count, is_count_from_one, is_tuple_of, is_word
from weavestore.plain import is_answer, is_answer_to, is_plain_key, is_plain_question, is_same
from weavestore.transactions import KINDS, Weave
from weavestore.versions import Book, state_of

LENGTHS = {"begin": 3, "ask": 4, "put": 4, "drop": 3, "end": 3, "give up": 2, "stand": 1, "fall": 2}


def is_told_outcome(value):
    """Whether any object is an outcome of a history, by its form."""
    if is_tuple_of(value, 4):
        return value[0] == "refused" and is_count(value[1]) and is_answer(value[2]) and is_answer(value[3])
    if not is_tuple_of(value, 2):
        return False
    return (value[0] == "committed" and is_count_from_one(value[1])) or (value[0] == "ended" and is_count(value[1]))


def is_event(value):
    """Whether any object is an event of a history."""
    if not isinstance(value, tuple) or not value or not isinstance(value[0], str) or value[0] not in LENGTHS:
        return False
    word = value[0]
    if len(value) != LENGTHS[word]:
        return False
    if word == "stand":
        return True
    if word == "fall":
        return is_count(value[1])
    return is_word(value[1]) and is_deed_of_one(word, value[2:])


def is_deed_of_one(word, parts):
    """Whether the parts behind the name are those that an event of one transaction has."""
    if word == "begin":
        return parts[0] in KINDS
    if word == "ask":
        return is_plain_question(parts[0]) and is_answer_to(parts[0], parts[1])
    if word == "put":
        return is_plain_key(parts[0]) and is_thing(parts[1])
    if word == "drop":
        return is_plain_key(parts[0])
    return word == "give up" or is_told_outcome(parts[0])


def are_events(value):
    """Whether any object is a history, by its form."""
    return isinstance(value, list) and all([is_event(event) for event in value])


def let_come(weave, event):
    """Lets an event come to a weave, and returns it as the weave tells it; raises what the weave raises."""
    word = event[0]
    if word == "stand":
        weave.stand(weave.newest())
    elif word == "fall":
        weave.fall(event[1])
    elif word == "begin":
        weave.begin(event[1], event[2])
    elif word == "ask":
        return (*event[:3], weave.ask(event[1], event[2]))
    elif word == "put":
        weave.put(event[1], event[2], event[3])
    elif word == "drop":
        weave.drop(event[1], event[2])
    elif word == "end":
        return (*event[:2], weave.end(event[1]))
    else:
        weave.give_up(event[1])
    return event


def told_by_weave(weave, event):
    """The event as a weave to which it comes tells it, None if it cannot come."""
    try:
        return let_come(weave, event)
    except (InvalidName, InvalidKind, InvalidSnapshot):
        return None


def is_told_so(event, told):
    """Whether an event is just as it is told."""
    if event[0] == "ask":
        return is_same(event[3], told[3])
    if event[0] != "end" or event[2][0] != "refused" or told[2][0] != "refused":
        return event == told
    return event[2][1] == told[2][1] and is_same(event[2][2], told[2][2]) and is_same(event[2][3], told[2][3])


class Course:
    """The plain row of a history up to its first wrong event, and what became of each transaction by then."""

    def __init__(self, history):
        self.weave = Weave(Book({}, 0), 0)
        self.wrong = None
        self.right = None
        self.bounds = [(0, 0)]
        self.begun = {}
        self.fates = {}
        self.deeds = {}
        self.end_places = {}
        for place, event in enumerate(history):
            if self.wrong is None:
                self.step(place, event)

    def step(self, place, event):
        """Lets one event come."""
        told = told_by_weave(self.weave, event)
        if told is None or not is_told_so(event, told):
            self.wrong = place
            self.right = told
            return
        self.bounds.append((self.weave.standing(), self.weave.newest()))
        if event[0] == "fall":
            self.lose(event[1])
        elif event[0] == "begin":
            self.begun[event[1]] = place
            self.fates[place] = ("under way",)
            self.deeds[place] = []
        elif event[0] == "give up":
            self.fates[self.begun.pop(event[1])] = ("given up",)
        elif event[0] == "end":
            begin = self.begun.pop(event[1])
            self.fates[begin] = told[2]
            self.end_places[begin] = place
        elif event[0] != "stand":
            self.deeds[self.begun[event[1]]].append(event)

    def lose(self, number):
        """Loses what a fall takes that leaves the commits up to a number."""
        self.begun = {}
        for place, fate in list(self.fates.items()):
            taken = fate[0] in ("committed", "ended") and fate[1] > number
            if taken or fate == ("under way",):
                self.fates[place] = ("lost",)

    def lasting(self):
        """The ascending list of the places of the lasting transactions."""
        return [place for place, fate in self.fates.items() if fate[0] in ("committed", "ended")]

    def told_place(self, place):
        """The place of the first event behind which a lasting transaction may be told, None if there is none."""
        for late in range(self.end_places[place], len(self.bounds) - 1):
            if self.bounds[late + 1][0] >= self.fates[place][1]:
                return late
        return None

    def told_places(self):
        """The dictionary from the lasting transactions to the places behind which they may be told."""
        return {place: self.told_place(place) for place in self.lasting()}

    def state(self, commit):
        """The state at a commit."""
        return state_of(self.weave.book(), commit)

    def behind(self, state, place):
        """The state behind a transaction done alone over one, None if a look tells something else then."""
        writes = {}
        for event in self.deeds[place]:
            if event[0] == "put":
                writes[event[2]] = event[3]
            elif event[0] == "drop":
                writes[event[2]] = None
            elif not is_same(told_in(with_writes(state, writes), event[2]), event[3]):
                return None
        return with_writes(state, writes)


def fresh_events(history):
    """A list of events like those of a history, with lists of their own."""
    return [fresh(event) for event in history]
