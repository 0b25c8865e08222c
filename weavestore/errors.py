"""The errors that this package raises."""


class StoreError(ValueError):
    """What all errors of this package are."""

    def __init__(self):
        ValueError.__init__(self)


class InvalidDisc(StoreError):
    """Not a disc."""

    def __init__(self, value=None):
        self.value = value


class InvalidCell(StoreError):
    """Not a cell of a disc."""

    def __init__(self, value=None):
        self.value = value


class InvalidContent(StoreError):
    """Not a content of a cell."""

    def __init__(self, value=None):
        self.value = value


class InvalidChoice(StoreError):
    """Not a picture, perhaps not one of a disc."""

    def __init__(self, value=None):
        self.value = value


class InvalidCode(StoreError):
    """Not a code."""

    def __init__(self, value=None):
        self.value = value


class InvalidPage(StoreError):
    """Not a page of a code, of a line over a prime, of a disc."""

    def __init__(self, value=None):
        self.value = value


class InvalidLine(StoreError):
    """Not a line over a prime, not a line of the log."""

    def __init__(self, value=None):
        self.value = value


class InvalidRun(StoreError):
    """Not a run, not lists of writes."""

    def __init__(self, value=None):
        self.value = value


class InvalidMoment(StoreError):
    """Not a place or a number of events that are done, not a wait, not waits."""

    def __init__(self, value=None):
        self.value = value


class InvalidOrder(StoreError):
    """Not an order that the point tells."""

    def __init__(self, value=None):
        self.value = value


class InvalidDeed(StoreError):
    """Not a deed, not one of a list."""

    def __init__(self, value=None):
        self.value = value


class InvalidDeeds(StoreError):
    """Not a list of deeds."""

    def __init__(self, value=None):
        self.value = value


class InvalidStamps(StoreError):
    """Not stamps of pages."""

    def __init__(self, value=None):
        self.value = value


class InvalidChain(StoreError):
    """Not places with lines, not a chain."""

    def __init__(self, value=None):
        self.value = value


class InvalidBook(StoreError):
    """Not a book, not its rows."""

    def __init__(self, value=None):
        self.value = value


class InvalidKey(StoreError):
    """Not a key, perhaps not one of a kind that the point names."""

    def __init__(self, value=None):
        self.value = value


class InvalidThing(StoreError):
    """Not a thing."""

    def __init__(self, value=None):
        self.value = value


class InvalidWrites(StoreError):
    """Not writes."""

    def __init__(self, value=None):
        self.value = value


class InvalidCommit(StoreError):
    """Not a commit, perhaps not one within bounds."""

    def __init__(self, value=None):
        self.value = value


class InvalidSnapshot(StoreError):
    """Not a snapshot, not the standing commit."""

    def __init__(self, value=None):
        self.value = value


class InvalidHeld(StoreError):
    """Not an ascending list of held snapshots, not pins."""

    def __init__(self, value=None):
        self.value = value


class InvalidQuestion(StoreError):
    """Not a question, a test, a wish, a way, a text of one."""

    def __init__(self, value=None):
        self.value = value


class InvalidName(StoreError):
    """Not a name, perhaps not one that is, or is not, in use."""

    def __init__(self, value=None):
        self.value = value


class InvalidKind(StoreError):
    """Not the word, or the transaction, of a kind that the point names."""

    def __init__(self, value=None):
        self.value = value


class InvalidTransaction(StoreError):
    """Not a transaction that can do what is asked."""

    def __init__(self, value=None):
        self.value = value


class InvalidHistory(StoreError):
    """Not a history."""

    def __init__(self, value=None):
        self.value = value


class InvalidPrograms(StoreError):
    """Not a list of programs, not one."""

    def __init__(self, value=None):
        self.value = value


class InvalidShelf(StoreError):
    """Not a shelf."""

    def __init__(self, value=None):
        self.value = value


class InvalidState(StoreError):
    """Not a state."""

    def __init__(self, value=None):
        self.value = value


class InvalidTable(StoreError):
    """Not columns, not a table, an index of a state."""

    def __init__(self, value=None):
        self.value = value


class InvalidRow(StoreError):
    """Not a row, a worth, a deed of tables."""

    def __init__(self, value=None):
        self.value = value


class InvalidText(StoreError):
    """Not a text that a writer makes."""

    def __init__(self, value=None):
        self.value = value


class InvalidStore(StoreError):
    """Not a store."""

    def __init__(self, value=None):
        self.value = value


class InvalidSpot(StoreError):
    """Not a place of the ring."""

    def __init__(self, value=None):
        self.value = value


class InvalidScript(StoreError):
    """Not a script."""

    def __init__(self, value=None):
        self.value = value


class InvalidRecord(StoreError):
    """Not a record of a store."""

    def __init__(self, value=None):
        self.value = value


class InvalidCount(StoreError):
    """Not a count, perhaps not one within bounds."""

    def __init__(self, value=None):
        self.value = value


class Unlike(StoreError):
    """An argument that does not go with an elder one."""

    def __init__(self, value=None):
        self.value = value


class Full(StoreError):
    """There is no place, no line, no room left."""

    def __init__(self, value=None):
        self.value = value


class Refused(StoreError):
    """Something that can't be done as it stands."""

    def __init__(self, value=None):
        self.value = value


class Fallen(StoreError):
    """The power is lost amid a deed."""

    def __init__(self, value=None):
        self.value = value
