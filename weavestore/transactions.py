"""Transactions: readers and writers over a book, refused only if what they saw is otherwise at their place."""

from weavestore.asking import Doing, fresh, is_asked, is_text_of_deed, told_in
from weavestore.clearing import cleared, may_go
from weavestore.errors import InvalidHeld, InvalidKey, InvalidKind, InvalidName, InvalidQuestion, InvalidSnapshot
from weavestore.errors import InvalidThing, InvalidTransaction, InvalidWrites
from weavestore.keys import are_writes, by_keys, is_thing, with_writes
from weavestore.kinds import are_ascending_below, is_count, is_count_from_one, is_tuple_of, is_word
from weavestore.needs import need_state
from weavestore.plain import is_plain_key
from weavestore.versions import Book, laid_on, need_snapshot, state_of

KINDS = ("reader", "writer")


class Weave:
    """A book, the commit that stands, and the transactions under way, by their names."""

    def __init__(self, book, standing):
        need_snapshot(book, standing)
        self._book = book
        self._standing = standing
        self._doings = {}

    def book(self):
        """Returns the book."""
        return self._book

    def standing(self):
        """Returns the standing commit."""
        return self._standing

    def newest(self):
        """Returns the newest commit."""
        return self._book.newest()

    def under_way(self):
        """Returns the ascending list of the names of the transactions under way."""
        return sorted(self._doings)

    def held(self):
        """Returns the ascending list of the snapshots of the transactions under way."""
        return sorted({doing.snapshot for doing in self._doings.values()})

    def copy(self):
        """Returns a weave like this one that goes its own way."""
        other = Weave(self._book, self._standing)
        other._doings = {name: doing.twin() for name, doing in self._doings.items()}
        return other

    def begin(self, name, kind):
        """Begins a transaction, and returns its snapshot."""
        if not is_word(name) or name in self._doings:
            raise InvalidName(name)
        if kind not in KINDS:
            raise InvalidKind(kind)
        snapshot = self._standing
        if kind == "writer":
            snapshot = self._book.newest()
        self._doings[name] = Doing(kind, snapshot)
        return snapshot

    def _doing(self, name):
        """The transaction with a name; raises InvalidName unless it is under way."""
        if not is_word(name) or name not in self._doings:
            raise InvalidName(name)
        return self._doings[name]

    def _writer(self, name):
        """The writer with a name; raises InvalidName, then InvalidKind, unless one is under way."""
        doing = self._doing(name)
        if doing.kind != "writer":
            raise InvalidKind(name)
        return doing

    def ask(self, name, question):
        """Returns the answer of a question over the state that a transaction sees."""
        doing = self._doing(name)
        if not is_asked(question):
            raise InvalidQuestion(question)
        return fresh(doing.ask_of(state_of(self._book, doing.snapshot), question))

    def put(self, name, key, thing):
        """Adds an own write of a thing to a writer."""
        doing = self._writer(name)
        need_plain_key(key)
        if not is_thing(thing):
            raise InvalidThing(thing)
        doing.write({key: thing})

    def drop(self, name, key):
        """Adds an own write that drops a key to a writer."""
        doing = self._writer(name)
        need_plain_key(key)
        doing.write({key: None})

    def deed(self, name, text):
        """Does a deed of tables in a writer, and returns its answer."""
        doing = self._writer(name)
        if not is_text_of_deed(text):
            raise InvalidQuestion(text)
        told, writes = doing.ask_of(state_of(self._book, doing.snapshot), ("deed", text))
        doing.write(writes)
        return told

    def give_up(self, name):
        """Ends a transaction without an outcome."""
        self._doing(name)
        del self._doings[name]

    def end(self, name):
        """Ends a transaction, lays its writes if it is committed, and returns its outcome."""
        outcome = self.would_end(name)
        if outcome[0] == "committed":
            self._book = laid_on(self._book, outcome[1], self._doings[name].writes)
        del self._doings[name]
        return outcome

    def would_end(self, name):
        """Returns the outcome with which a transaction would end now."""
        doing = self._doing(name)
        if not doing.writes:
            return ("ended", doing.snapshot)
        newest = self._book.newest()
        turned = doing.turned(state_of(self._book, newest))
        if turned:
            return ("refused", *fresh(turned[0]))
        return ("committed", newest + 1)

    def looks_of(self, name):
        """Returns the list of the tuples of a question and its answer."""
        return [(question, fresh(told)) for question, told, writes in self._doing(name).looks]

    def writes_of(self, name):
        """Returns the own writes of a transaction."""
        return by_keys(self._doing(name).writes)

    def turned_looks(self, name):
        """Returns the ascending list of the places of all looks that tell otherwise now."""
        doing = self._doing(name)
        return [place for place, elder, newer in doing.turned(state_of(self._book, self._book.newest()))]

    def _need_later(self, number):
        """Raises InvalidSnapshot unless it is a count from the standing commit to the newest one."""
        if not is_count(number) or not self._standing <= number <= self._book.newest():
            raise InvalidSnapshot(number)

    def stand(self, number):
        """Raises the standing commit."""
        self._need_later(number)
        self._standing = number

    def fall(self, number):
        """Leaves the book with the commits up to a number alone, which stands, and nothing under way."""
        self._need_later(number)
        rows = {key: [version for version in versions if version[0] <= number]
                for key, versions in self._book.rows().items()}
        self._book = Book({key: versions for key, versions in rows.items() if versions}, number)
        self._standing = number
        self._doings = {}

    def clear(self, pins):
        """Clears the book by the snapshots under way and some pins, and returns the list of what went."""
        if not are_ascending_below(pins, self._book.newest() + 1):
            raise InvalidHeld(pins)
        held = sorted(set(self.held() + pins))
        gone = may_go(self._book, held, self._standing)
        self._book = cleared(self._book, held, self._standing)
        return gone

    def exchange(self, book):
        """Takes another book, of the same newest commit, in the place of its own one."""
        self._book = book

    def is_told(self, outcome):
        """Returns whether an outcome may be told outside now."""
        if not is_outcome(outcome):
            raise InvalidTransaction(outcome)
        return outcome[0] == "refused" or outcome[1] <= self._standing


def is_outcome(value):
    """Whether any object is an outcome, by its form."""
    if is_tuple_of(value, 4):
        return value[0] == "refused" and is_count(value[1])
    if not is_tuple_of(value, 2):
        return False
    return (value[0] == "ended" and is_count(value[1])) or (value[0] == "committed" and is_count_from_one(value[1]))


def need_plain_key(key):
    """Raises InvalidKey unless it is a key that is no table key."""
    if not is_plain_key(key):
        raise InvalidKey(key)


def is_question(value):
    """Returns whether any object is a question."""
    return is_asked(value)


def answer(state, question):
    """Returns what a question tells over a state."""
    need_state(state)
    if not is_asked(question):
        raise InvalidQuestion(question)
    return told_in(state, question)


def laid_over(state, writes):
    """Returns the state, keys ascending, with writes laid over it."""
    need_state(state)
    if not are_writes(writes):
        raise InvalidWrites(writes)
    return with_writes(state, writes)
