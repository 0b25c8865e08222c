"""Questions of transactions, and the transactions that ask them: what a look tells of a state."""

from weavestore.acts import acted
from weavestore.errors import InvalidText
from weavestore.keys import between_in, first_in, is_key, with_writes
from weavestore.kinds import is_tuple_of
from weavestore.questions import answer_of
from weavestore.reading import table_deed_of, wish_of

OF_ONE_KEY = ("look", "first")
OF_TWO_KEYS = ("between", "many", "any")


class Doing:
    """A transaction under way: its kind, its snapshot, its own writes, and its looks.

    A look is a tuple of a question, of what it told, and of the own writes of its moment.
    """

    def __init__(self, kind, snapshot):
        self.kind = kind
        self.snapshot = snapshot
        self.writes = {}
        self.looks = []

    def twin(self):
        """A transaction like this one that goes its own way."""
        other = Doing(self.kind, self.snapshot)
        other.writes = {key: self.writes[key] for key in self.writes}
        other.looks = list(self.looks)
        return other

    def ask_of(self, state, question):
        """Looks at a state with the own writes laid over it, keeps the look, and returns what it tells."""
        told = told_in(with_writes(state, self.writes), question)
        self.looks.append((question, told, {key: self.writes[key] for key in self.writes}))
        return told

    def write(self, writes):
        """Adds own writes."""
        self.writes = {**self.writes, **writes}

    def turned(self, state):
        """The list of the tuples (place, elder, newer) of the looks that tell otherwise over a state."""
        if self.kind == "reader":
            return []
        found = []
        for place, (question, elder, writes) in enumerate(self.looks):
            newer = told_in(with_writes(state, writes), question)
            if newer != elder:
                found.append((place, elder, newer))
        return found


def is_text_of_wish(text):
    """Whether any object is the text of a wish."""
    try:
        wish_of(text)
    except InvalidText:
        return False
    return True


def is_text_of_deed(text):
    """Whether any object is the text of a deed of tables."""
    try:
        table_deed_of(text)
    except InvalidText:
        return False
    return True


def is_asked(value):
    """Whether any object is a question."""
    if not isinstance(value, tuple) or not value:
        return False
    if value[0] in OF_ONE_KEY:
        return is_tuple_of(value, 2) and is_key(value[1])
    if value[0] in OF_TWO_KEYS:
        return is_tuple_of(value, 3) and is_key(value[1]) and is_key(value[2])
    return value[0] == "find" and is_tuple_of(value, 2) and is_text_of_wish(value[1])


def told_in(state, question):
    """What a question, or a deed of tables by its text, tells over a state."""
    word = question[0]
    if word == "look":
        return state.get(question[1])
    if word == "first":
        return first_in(state, question[1])
    if word == "find":
        return answer_of(state, question[1])
    if word == "deed":
        return acted(state, table_deed_of(question[1]))
    found = between_in(state, question[1], question[2])
    if word == "between":
        return found
    if word == "many":
        return len(found)
    return found != []


def fresh(value):
    """What a look tells, in lists and dictionaries of its own."""
    if isinstance(value, list):
        return list(value)
    if isinstance(value, tuple):
        return tuple([fresh(part) for part in value])
    if isinstance(value, dict):
        return {key: value[key] for key in value}
    return value
