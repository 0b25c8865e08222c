"""What the tests share: odd objects, bent values, plain looks of their own, and a judge of calls."""

import importlib
import itertools

from weavestore import errors
from weavestore.disc import Disc
from weavestore.hangs import Standing
from weavestore.lines import Line
from weavestore.store import Store
from weavestore.transactions import Weave
from weavestore.versions import Book

GREAT = 2305843009213693951
# One for all: no call that is tried changes it.
STORE = Store(3, 4)


def shape(value):
    """All that there is to tell of a value, kinds too, as something that can be compared."""
    kind = value.__class__.__name__
    if isinstance(value, (list, tuple)):
        return (kind, tuple(shape(part) for part in value))
    if isinstance(value, dict):
        return (kind, tuple((shape(key), shape(part)) for key, part in value.items()))
    if isinstance(value, Disc):
        return (kind, shape([value.standing(), value.newest(), value.pending()]))
    if isinstance(value, Line):
        return (kind, value.prime(), value.cells(), value.size())
    if isinstance(value, Book):
        return (kind, shape(value.rows()), value.newest())
    if isinstance(value, Weave):
        told = [[value.looks_of(name), value.writes_of(name), value.would_end(name), value.turned_looks(name)]
                for name in value.under_way()]
        return (kind, shape([value.book(), value.standing(), value.newest(), value.under_way(), value.held(), told]))
    if isinstance(value, Standing):
        return (kind, shape([value.answers(), value.turned(), value.looked_at()]))
    if isinstance(value, Store):
        return (kind, store_shape(value))
    if isinstance(value, errors.StoreError):
        return (kind, id(value))
    return (kind, value)


def store_shape(store):
    """All that there is to tell of a store."""
    told = [store.disc(), store.record(), store.is_down()]
    if not store.is_down():
        told += [store.shelf(), store.book(), store.standing(), store.stamps(), store.stamps_standing(), store.lines(), store.lines_standing(), store.run(),
                 store.waits(), store.mixed_pages(), store.free_places(), [store.looks_of(name) for name in store.under_way()],
                 [[name, store.writes_of(name), store.would_end(name)] for name in store.under_way()]]
    return shape(told)


def unordered(value):
    """The shape of a value, dictionaries told by their items in whatever order."""
    if isinstance(value, (list, tuple)):
        return (value.__class__.__name__, tuple(unordered(part) for part in value))
    if isinstance(value, dict):
        return ("dict", tuple(sorted(((shape(key), unordered(part)) for key, part in value.items()), key=repr)))
    return shape(value)


def spoil(value):
    """Changes whatever can be changed in a value."""
    if isinstance(value, (list, tuple)):
        for part in value:
            spoil(part)
    if isinstance(value, dict):
        for part in list(value.values()):
            spoil(part)
        value.clear()
    if isinstance(value, list):
        value.reverse()
        value.append("spoilt")
    if isinstance(value, Disc):
        value.write(0, (99, 99))
        value.barrier()


def odd_objects():
    """Objects of all kinds, new ones at each call."""
    disc = Disc(2)
    disc.write(0, (1, 1))
    return [
        None, True, False, 0, 1, 2, 3, 4, 5, 6, -1, 61, 10**31, "", "a", "tell", "0", "ann 7", " ", "\t", "\n", "~",
        [], [None], [0], [1], [True], [False], [0, 1], [1, 0], [[]], [[0], [1]], [[0, 0], [1, 1], [0, 1]], [{}], ["a"],
        [(0, 1)], [(0, (0, 1))], [[(0, (0, 1))]], [("tell",)], [("write", 0)], [(1, 0, [0], ())], [None, (0, 1)],
        (), (0,), (1,), (True,), (0, 1), (1, 0), (True, False), (0, True), (None, None), ("a", "b"), (0, 1, 2), ([], []),
        ((0, 1), (1, 0)), (1, 0, [0], ()), (1, {}), {}, {0: 0}, {1: 1}, {True: False}, {"a": []}, {None: None},
        {(0, 1): [0]}, {0: (1, 1)}, [[[[[]]]]], ((((),),),), {0: {0: {0: {}}}}, disc, [disc], (disc, disc), {0: disc},
        Line(3, 2, 1), [Line(3, 2, 1)], errors.InvalidCell(3), [errors.Unlike()],
        ("a",), ("on", "ann"), ("row", "staff", 7), [("a",)], {("a",): ()}, {("a",): (1,)}, {("a",): None},
        {("a",): [(1, ())]}, {("a",): (True,)}, {(): ()}, Book({}, 0), Book({("a",): [(1, ())]}, 1), [Book({}, 0)],
        "reader", "writer", "count staff", "unmake table staff", ("ended", 0), ("look", ("a",)), ("all",), ("key",),
        ("is", "pay", "=", 1), ("count", "staff", None), [("name", "word")], ("strange", ("row",)), Weave(Book({}, 0), 0),
        Standing({}, {}), STORE,
    ]


def bent(value):
    """Values like one but for a single place, each wrong there or not."""
    for other in [None, True, False, -1, 0, 1, 2, 10**31, "x", "tell", [], (), {}, [value], (value,)]:
        yield other
    if isinstance(value, (list, tuple)):
        make = value.__class__
        parts = list(value)
        yield tuple(parts) if make is list else parts
        for at, part in enumerate(parts):
            yield make(parts[:at] + parts[at + 1:])
            yield make(parts[: at + 1] + parts[at:])
            yield make(parts[:at] + parts[at:][::-1])
            for other in bent(part):
                yield make(parts[:at] + [other] + parts[at + 1:])
    if isinstance(value, dict):
        for key in value:
            rest = {each: value[each] for each in value if each != key}
            yield rest
            for other in [None, True, False, -1, 0, 1, 2, 9, "x", (), (0, 1)]:
                yield {**rest, other: value[key]}
            for other in bent(value[key]):
                yield {**rest, key: other}


def is_count(value):
    return type(value) is int and value >= 0


def is_content(value):
    return type(value) is tuple and len(value) == 2 and all(is_count(part) for part in value) and value[1] < GREAT


def is_cells(value):
    return type(value) is list and all(part is None or is_content(part) for part in value)


def ascend(value):
    return type(value) is list and all(is_count(part) for part in value) and sorted(set(value)) == value


def ascend_below(value, bound):
    return ascend(value) and all(part < bound for part in value)


def is_row(value, bound):
    """Whether it is a list of counts below a bound and None."""
    return type(value) is list and all(part is None or is_count(part) and part < bound for part in value)


def is_code(value):
    if type(value) is not list or len(value) < 2 or not all(type(page) is list for page in value):
        return False
    if not all(len(page) == len(value[0]) > 0 and all(is_count(sign) for sign in page) for page in value):
        return False
    return all(one != other for one, other in itertools.combinations(value, 2))


def is_run(value):
    if type(value) is not list or not value:
        return False
    for event in value:
        if type(event) is not tuple or not event or type(event[0]) is not str:
            return False
        if event[0] == "write":
            if len(event) != 2 or not is_count(event[1]):
                return False
        elif event not in [("barrier",), ("tell",)]:
            return False
    return True


def is_bare(value):
    return is_run(value) and all(event[0] != "barrier" for event in value)


def all_waits(run):
    """ALL waits of a run, ascending."""
    found = []
    for early, late in itertools.combinations(range(len(run)), 2):
        if run[early][0] == "write" and run[late][0] in ["tell", "write"] and run[early] != run[late]:
            found.append((early, late))
    return found


def is_in(value, values):
    """Whether a value is one of values, kinds and all."""
    return shape(value) in [shape(each) for each in values]


def are_waits(run, value):
    if type(value) is not list or not all(is_in(wait, all_waits(run)) for wait in value):
        return False
    return sorted(set(value)) == value


def are_words(value):
    return type(value) is tuple and all(is_deed_word(part) for part in value)


def is_deed_word(value):
    if type(value) is str:
        return 1 <= len(value) <= 8 and all("a" <= letter <= "z" for letter in value)
    return value is None or is_count(value) or are_words(value)


def is_deed(value):
    if type(value) is not tuple or len(value) != 4:
        return False
    number, page, reads, words = value
    return is_count(number) and number > 0 and is_count(page) and ascend(reads) and page in reads and are_words(words)


def are_deeds(value):
    if type(value) is not list or not all(is_deed(deed) for deed in value):
        return False
    return all(one[0] < other[0] for one, other in zip(value, value[1:]))


def choices_of(deeds):
    """The dictionary from the pages of deeds to the lists of all stamps that each may have."""
    found = {}
    for number, page, reads, words in deeds:
        for each in reads:
            found.setdefault(each, [0])
        found[page].append(number)
    return {page: found[page] for page in sorted(found)}


def all_stamps(deeds):
    """ALL stamps of deeds."""
    choices = choices_of(deeds)
    return [dict(zip(choices, row)) for row in itertools.product(*choices.values())]


def newest_of(deeds):
    return {page: stamps[-1] for page, stamps in choices_of(deeds).items()}


def are_stamps(deeds, value):
    choices = choices_of(deeds)
    if type(value) is not dict or sorted(map(repr, value)) != sorted(map(repr, choices)):
        return False
    return all(is_count(stamp) and stamp in choices[page] for page, stamp in value.items())


def lead_back(deeds, stamps):
    """ALL lists of deeds that, done again on stamps, lead to the newest ones: a walk of the test's own."""
    found = []
    for many in range(len(deeds) + 1):
        for row in itertools.combinations(deeds, many):
            stands, first = dict(stamps), {page: 0 for page in stamps}
            for deed in deeds:
                if deed in row:
                    alike = all(stands[page] == first[page] for page in deed[2])
                    stands[deed[1]] = deed[0] if alike else "odd"
                first[deed[1]] = deed[0]
            if stands == first:
                found.append([deed[0] for deed in row])
    return found


def are_right(deeds, stamps):
    return lead_back(deeds, stamps) != []


def plain_waits(deeds, stamps):
    """The waits of pages, as the document words them."""
    newest = newest_of(deeds)
    found = []
    for q in stamps:
        for p in stamps:
            for number, page, reads, words in deeds:
                if p != q and page == p and q in reads and stamps[q] < number <= newest[q] and stamps[p] < number:
                    found.append((q, p, number))
    return sorted(found)


def all_rings(pages, waits):
    """ALL rings, told by trying every row of unlike pages."""
    pairs = {(q, p) for q, p, number in waits}
    found = []
    for many in range(2, len(pages) + 1):
        for row in itertools.permutations(pages, many):
            if all(pair in pairs for pair in zip(row, row[1:] + row[:1])):
                found.append(list(row))
    return found


def some_deeds(chance, many, pages):
    """A list of deeds by chance."""
    found = []
    number = 0
    for _ in range(many):
        number += chance.randint(1, 2)
        page = chance.randrange(pages)
        reads = sorted({page} | {each for each in range(pages) if chance.random() < 0.35})
        found.append((number, page, reads, ("mix", number)))
    return found


def function_of(module, name):
    """A function, or a method by the names of its class and of itself with a point between."""
    held = importlib.import_module("weavestore." + module)
    for part in name.split("."):
        held = getattr(held, part)
    return held


def outcome_of(function, *given):
    """The error that a call raises, or None, and what it returns."""
    try:
        return None, function(*given)
    except errors.StoreError as error:
        return error, None
