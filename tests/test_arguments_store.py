"""What the calls of shelves, the store, scripts and papers do with what they are passed."""

import unittest

from tests import plainbooks, plainscripts, plainshelves
from tests.arguments import HELD, ArgumentsCheck, judged, unless, unless_with
from tests.plainhistories import is_history
from tests.plainstore import Plain
from tests.support import STORE, are_deeds, ascend, errors, is_cells, is_count, shape
from tests.test_arguments_late import DAY, IN_BOOK
from tests.test_arguments_tables import IN_KEY, IS_DEED_TEXT, QUESTION, is_outcome, is_plain_key, judge_writer, made, under_way
from weavestore.store import Store

ANN = ("on", "ann")
SHELF = [(3, 1, 4, {"b": 1, "a": 0}), [(None, 2), (("m",), 4)], {("c",): [(1, (1,)), (3, None)]}, {}, {("m", 2): [(4, ())]}]
DEED = (7, 2, [2], ("put", ANN, 5, (1,)))
SCRIPT = [("drop", "a", ANN), ("try", [("sync",)]), ("fall", [1])]


def make_store():
    """A store with commits of which one stands, pins, a page written back, and transactions under way."""
    store = Store(3, 8)
    store.begin("w", "writer")
    store.put("w", ANN, (1,))
    store.end("w")
    store.pin("p", 0)
    store.sync()
    store.write_back(2)
    store.sync()
    store.begin("r", "reader")
    store.begin("w", "writer")
    store.begin("x", "writer")
    store.ask("x", ("look", ANN))
    store.put("x", ANN, (2,))
    return store


READY = make_store()


def make_mixed():
    """A store that woke with page 2 mixed."""
    store = make_store()
    store.end("x")
    store.sync()
    store.write_back(2)
    newest, standing = store.disc().newest(), store.disc().standing()
    store.fall(newest[:130] + standing[130:])
    store.wake()
    return store


def make_down():
    store = make_store()
    store.fall(store.disc().standing())
    return store


MIXED, DOWN = make_mixed(), make_down()


def judge_write_back(value, given):
    if not is_page(value, given):
        return errors.InvalidPage
    return None if value == 0 else errors.Refused


def judge_mend(value, given):
    if not is_page(value, given):
        return errors.InvalidPage
    return None if value == 2 else errors.Refused


def is_page(value, given):
    return is_count(value) and value < 3


def is_page_of(value, given):
    return is_count(value) and value < len(given["shelf"])


def newest_fits(value, given):
    commits = [version[0] for versions in plainshelves.counting(given["shelf"]).values() for version in versions]
    return is_count(value) and value >= max(commits, default=0)


def is_new_commit(value, given):
    rows = given["shelf"][2:]
    commits = [version[0] for page in rows for versions in page.values() for version in versions]
    return is_count(value) and value > max(commits + [given["shelf"][0][2]])


def judge_deed(value, given):
    shelf = given["shelf"]
    if not plainshelves.is_meant(value, len(shelf)):
        return errors.InvalidDeed
    if plainshelves.refused(shelf, value):
        return errors.Refused
    return None if len(plainshelves.text_of(value[1], plainshelves.content_behind(shelf, value))) < 109 else errors.Full


def judge_deeds(value, given):
    if not are_deeds(value):
        return errors.InvalidDeeds
    late = list(given["shelf"])
    for deed in value:
        error = judge_deed(deed, {"shelf": late})
        if error is not None:
            return (error, deed)
        late[deed[1]] = plainshelves.content_behind(late, deed)
    return None


def is_count_from_one(value):
    return is_count(value) and value > 0


def untidy(given):
    return None if plainshelves.is_tidy(given["shelf"]) else (errors.Refused, given["shelf"])


def commit_refused(given):
    if untidy(given):
        return untidy(given)
    return None if plainshelves.commit_deeds(given["shelf"], given["commit"], given["writes"], 1) is not None else (errors.Full, given["writes"])


def content_fits(value, given):
    return plainshelves.is_content(given["page"], value)


def too_long(given):
    return (errors.Full, given["content"]) if len(plainshelves.text_of(given["page"], given["content"])) > 108 else None


def unpin_refused(given):
    return None if given["name"] in given["shelf"][0][3] else (errors.Refused, given["name"])


def pinnable(value, given):
    store = given["self"]
    return is_count(value) and value in [store.standing(), *store.held(), *store.pins().values()]


def judge_unpin(value, given):
    if not plainbooks.is_word(value):
        return errors.InvalidName
    return None if value == "p" else errors.Refused


def judge_harms(value, given):
    if type(value) is not dict:
        return errors.InvalidCell
    for cell, content in value.items():
        if not is_count(cell) or cell >= given["self"].disc().cells():
            return (errors.InvalidCell, cell)
        if not is_cells([content]):
            return (errors.InvalidContent, content)
    return None


def is_record(value):
    many = {"begin": 2, "ask": 2, "put": 3, "drop": 2, "deed": 2, "give_up": 1, "end": 1, "sync": 0, "write_back": 1, "mend": 1, "root": 0, "clear": 0, "join": 0, "pin": 2,
            "unpin": 1, "cut": 1, "fall": 1, "harm": 1, "wake": 0}
    if type(value) is not list or not all(type(deed) is tuple and deed and type(deed[0]) is str for deed in value):
        return False
    return all(many.get(deed[0]) == len(deed) - 1 for deed in value)


def first_error(given):
    """The first error but Fallen that deeds of a record raise, by a plain store."""
    plain = Plain(3, 8)
    for deed in PLAIN_RECORD + given["record"]:
        try:
            plain.call(*deed)
        except errors.Fallen:
            pass
        except errors.StoreError as error:
            return (error.__class__, error.value)
    return None


def is_range(low, high):
    return lambda value: is_count(value) and low <= value <= high


def are_lists(value):
    return type(value) is list and all(type(part) is list and all(is_count(each) for each in part) for part in value)


def no_fall(given):
    return None if any(command[0] == "fall" for command in given["script"]) else (errors.Refused, given["script"])


def is_picture_paper(value):
    return is_cells(value) and 1 <= len(value) <= 2000


def is_thing_or_none(value):
    return value is None or plainbooks.is_thing(value)


PLAIN_RECORD = READY.record()
SHELVED = ("shelf", made(SHELF), unless(errors.InvalidShelf, plainshelves.is_shelf))
NUMBER = ("number", made(7), unless(errors.InvalidCount, is_count_from_one))
PAGE = ("page", made(2), unless(errors.InvalidPage, is_count))
SELF = ("self", READY.copy, HELD)
NAME = ("name", made("x"), unless_with(errors.InvalidName, under_way))
WRITER = ("name", made("w"), judge_writer)
PLAIN_KEY = ("key", made(ANN), unless(errors.InvalidKey, is_plain_key))
WORD = ("name", made("new"), unless(errors.InvalidName, plainbooks.is_word))
PAGES = ("pages", made(3), unless(errors.InvalidCount, is_range(3, 12)))
PLACES = ("places", made(6), unless(errors.InvalidCount, is_range(4, 40)))
IN_SCRIPT = ("script", made(SCRIPT), unless(errors.InvalidScript, plainscripts.is_script))


def count(name, least=0):
    return (name, made(least + 2), unless(errors.InvalidCount, lambda value: is_count(value) and value >= least))


SPECS = [
    ("shelves", "is_shelf", [("value", made(SHELF), judged)]),
    ("shelves", "new_shelf", [("pages", made(5), unless(errors.InvalidCount, is_range(3, 60)))]),
    ("shelves", "page_of", [SHELVED, IN_KEY]),
    ("shelves", "keys_of", [SHELVED, ("page", made(4), unless_with(errors.InvalidPage, is_page_of))]),
    ("shelves", "book_in", [SHELVED, ("newest", made(4), unless_with(errors.InvalidCommit, newest_fits))]),
    ("shelves", "is_tidy", [SHELVED]),
    ("shelves", "content_text", [PAGE, ("content", made(SHELF[2]), unless_with(errors.InvalidContent, content_fits))]),
    ("shelves", "page_text", [PAGE, ("content", made(SHELF[2]), unless_with(errors.InvalidContent, content_fits)),
                              ("stamp", made(12), unless(errors.InvalidCount, is_range(0, 99999999999)))], too_long),
    ("shelves", "made", [SHELVED, ("deed", made(DEED), judge_deed)]),
    ("shelves", "behind", [SHELVED, ("deeds", made([DEED, (8, 0, [0], ("pin", "c", 3))]), judge_deeds)]),
    ("shelves", "commit_deeds", [SHELVED, ("commit", made(9), unless_with(errors.InvalidCommit, is_new_commit)),
                                 ("writes", made({ANN: (1,), ("m",): None}), unless(errors.InvalidWrites, lambda value: plainbooks.are_writes(value) and value != {})),
                                 NUMBER], commit_refused),
    ("shelves", "clear_deeds", [SHELVED, ("held", made([1, 3]), unless(errors.InvalidHeld, lambda value: ascend(value) and len(value) < 11)),
                                ("standing", made(4), unless(errors.InvalidSnapshot, is_count)), NUMBER]),
    ("shelves", "join_deeds", [SHELVED, NUMBER], untidy),
    ("shelves", "pins_in", [SHELVED]),
    ("shelves", "root_of", [SHELVED]),
    ("shelves", "pin_deed", [SHELVED, WORD, ("commit", made(0), unless(errors.InvalidCommit, is_count)), NUMBER]),
    ("shelves", "unpin_deed", [SHELVED, ("name", made("a"), WORD[2]), NUMBER], unpin_refused),
    ("shelves", "begin_deed", [SHELVED, count("line", 1), ("place", made(0), unless(errors.InvalidCount, is_count)),
                               ("newest", made(0), unless(errors.InvalidCount, is_count)), NUMBER]),
    ("store", "Store", [PAGES, PLACES]),
    ("store", "Store.begin", [SELF, ("name", made("new"), unless_with(errors.InvalidName, lambda value, given: plainbooks.is_word(value) and not under_way(value, given))),
                              ("kind", made("reader"), unless(errors.InvalidKind, lambda value: type(value) is str and value in ("reader", "writer")))]),
    ("store", "Store.ask", [SELF, NAME, QUESTION]),
    ("store", "Store.put", [SELF, WRITER, PLAIN_KEY, ("thing", made((1, "a")), unless(errors.InvalidThing, plainbooks.is_thing))]),
    ("store", "Store.drop", [SELF, WRITER, PLAIN_KEY]),
    ("store", "Store.deed", [SELF, WRITER, ("text", made("unmake table staff"), unless(errors.InvalidQuestion, IS_DEED_TEXT))]),
    *[("store", "Store." + name, [SELF, NAME]) for name in ["give_up", "would_end", "looks_of", "writes_of", "turned_looks", "end", "ahead"]],
    *[("store", "Store." + name, [SELF]) for name in [
        "under_way", "held", "newest", "standing", "free_places", "sync", "mixed_pages", "root", "clear", "pins", "is_down", "disc", "shelf", "stamps", "stamps_standing",
        "lines", "lines_standing", "run", "waits", "copy", "record", "book"]],
    ("store", "Store.is_told", [SELF, ("outcome", made(("refused", 0, [1], None)), unless(errors.InvalidTransaction, is_outcome))]),
    ("store", "Store.why_not_write", [SELF, ("page", made(0), unless_with(errors.InvalidPage, is_page))]),
    ("store", "Store.write_back", [SELF, ("page", made(0), judge_write_back)]),
    ("store", "Store.mend", [("self", MIXED.copy, HELD), ("page", made(2), judge_mend)]),
    ("store", "Store.pin", [SELF, WORD, ("commit", made(1), unless_with(errors.InvalidCommit, pinnable))]),
    ("store", "Store.unpin", [SELF, ("name", made("p"), judge_unpin)]),
    ("store", "Store.cut", [SELF, count("many")]),
    ("store", "Store.harm", [("self", DOWN.copy, HELD), ("harms", made({0: None, 5: (1, 2)}), judge_harms)]),
    ("store", "Store.wake", [("self", DOWN.copy, HELD)]),
    ("store", "replayed", [("store", READY.copy, HELD), ("record", made([("end", "x")]), unless(errors.InvalidRecord, is_record))], first_error),
    ("scripts", "script_text", [IN_SCRIPT]),
    ("scripts", "end_of", [PAGES, PLACES, IN_SCRIPT]),
    ("scripts", "shortened", [PAGES, PLACES, IN_SCRIPT]),
    ("scripts", "ends_by_choices", [PAGES, PLACES, IN_SCRIPT, ("lists", made([[], [1, 0]]), unless(errors.InvalidChoice, are_lists))], no_fall),
    ("papers", "key_text", [IN_KEY]),
    ("papers", "thing_text", [("thing", made((1, "a")), unless(errors.InvalidThing, is_thing_or_none))]),
    ("papers", "writes_text", [("writes", made({ANN: (1,), ("m",): None}), unless(errors.InvalidWrites, plainbooks.are_writes))]),
    ("papers", "picture_text", [("picture", made([None, (1, 2)]), unless(errors.InvalidChoice, is_picture_paper))]),
    ("papers", "book_text", [IN_BOOK]),
    ("papers", "history_text", [("history", made(DAY), unless(errors.InvalidHistory, is_history))]),
]


class StoreArgumentsTest(ArgumentsCheck, unittest.TestCase):
    specs = SPECS

    def test_the_one_store_of_all_odd_objects_is_as_it_was(self):
        self.assertEqual(shape(STORE), shape(Store(3, 4)))


if __name__ == "__main__":
    unittest.main()
