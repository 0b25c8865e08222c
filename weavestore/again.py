"""Deeds of a store by their names: those of a record, and how they are made again."""

THINGS = {
    "begin": 2, "ask": 2, "put": 3, "drop": 2, "deed": 2, "give_up": 1, "end": 1, "sync": 0, "write_back": 1, "mend": 1,
    "root": 0, "clear": 0, "join": 0, "pin": 2, "unpin": 1, "cut": 1, "fall": 1, "harm": 1, "wake": 0,
}


def is_deed_made(value):
    """Whether any object is a tuple of the name of a deed and of as many things as it is passed."""
    if not isinstance(value, tuple) or not value or not isinstance(value[0], str) or value[0] not in THINGS:
        return False
    return len(value) == 1 + THINGS[value[0]]


def is_record(value):
    """Whether any object is a record of a store, by its form alone."""
    return isinstance(value, list) and all([is_deed_made(deed) for deed in value])


def make_again(store, deed):
    """Makes a deed on a store, and returns what it returns."""
    name = deed[0]
    if len(deed) == 1:
        return make_bare(store, name)
    if len(deed) == 2:
        return make_with_one(store, name, deed[1])
    if name == "begin":
        return store.begin(deed[1], deed[2])
    if name == "ask":
        return store.ask(deed[1], deed[2])
    if name == "put":
        return store.put(deed[1], deed[2], deed[3])
    if name == "drop":
        return store.drop(deed[1], deed[2])
    if name == "deed":
        return store.deed(deed[1], deed[2])
    return store.pin(deed[1], deed[2])


def make_bare(store, name):
    """Makes a deed that is passed nothing."""
    if name == "sync":
        return store.sync()
    if name == "root":
        return store.root()
    if name == "clear":
        return store.clear()
    if name == "join":
        return store.join()
    return store.wake()


def make_with_one(store, name, thing):
    """Makes a deed that is passed one thing."""
    if name == "give_up":
        return store.give_up(thing)
    if name == "end":
        return store.end(thing)
    if name == "write_back":
        return store.write_back(thing)
    if name == "mend":
        return store.mend(thing)
    if name == "unpin":
        return store.unpin(thing)
    if name == "cut":
        return store.cut(thing)
    if name == "fall":
        return store.fall(thing)
    return store.harm(thing)
