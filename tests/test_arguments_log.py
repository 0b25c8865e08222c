"""What the calls of the chain, of opening, of room and of versions do with what they are passed."""

import copy
import unittest

from tests import plainbooks, plainlog, support
from tests.arguments import ArgumentsCheck, judged, unless, unless_with
from tests.support import ascend, ascend_below, errors, is_count
from tests.test_room import plain_life, best_roots
from weavestore.chain import deed_by, line_cells
from weavestore.versions import Book

DEED = (3, 2, [2, 3], ("put", (None, 7)))
LINES = [(3, 1, False, DEED), (4, 3, True, (4, 3, [3], ("a",))), (6, 4, False, (6, 5, [5], ()))]
HURT = [None] + line_cells(LINES[1])[1:]
PLACES = [line_cells(LINES[0]), HURT]
LIFE = [("line",), ("stand", 1), ("line",), ("root",), ("stand", 2), ("line",), ("line",)]
BOOK = Book({("a",): [(1, (1,)), (3, None)], ("b", 2): [(2, ())]}, 4)


def made(value):
    return lambda: copy.deepcopy(value)


def is_text(value, given):
    if type(value) is not str:
        return False
    try:
        deed = deed_by(given["number"], value)
    except errors.InvalidText:
        return False
    return plainlog.is_deed_with_room(deed) and plainlog.plain_text(deed) == value


def pages_of_deeds(lines):
    done = plainlog.up_to_last(lines)
    return {page for line in done for page in line[3][2]}


def are_stamps(value):
    return type(value) is dict and all(is_count(page) and is_count(stamp) for page, stamp in value.items())


def judge_lines(value, given):
    if not plainlog.is_chain(value):
        return errors.InvalidChain
    if not pages_of_deeds(value) <= set(given["stamps"]):
        return errors.InvalidStamps, given["stamps"]
    return None


def names_ahead(value, given):
    return is_count(value) and (not given["lines"] or given["lines"][0][1] == value)


def pages_in_stamps(value, given):
    return ascend(value) and all(page in given["stamps"] for page in value)


def page_in_stamps(value, given):
    return is_count(value) and value in given["stamps"]


def not_openable(given):
    done = plainlog.up_to_last(given["lines"])
    newest = done[-1][0] if done else given["ahead"]
    stamps = given["stamps"]
    for number, ahead, last, (same, page, reads, words) in done:
        if stamps[page] < number and any(stamps[read] >= number for read in reads):
            return errors.Refused, stamps
    return (errors.Refused, stamps) if any(stamp > newest for stamp in stamps.values()) else None


def ring_is_full(given):
    told = plainlog.plain_chain(given["places"], given["start"], given["ahead"], LINES)
    many = len(plainlog.up_to_last(told))
    return (errors.Full, given["start"]) if many == len(given["places"]) else None


def no_roots(given):
    return (errors.Full, given["places"]) if best_roots(given["life"], min(given["places"], 9)) is None else None


def from_one(value):
    return is_count(value) and value > 0


def is_book(value):
    return type(value) is Book


def commit_of(value, given):
    return is_count(value) and value <= given["book"].newest()


def version_of(value, given):
    return is_count(value) and value in [number for number, thing in given["book"].rows().get(given["key"], [])]


def newest_of_rows(value, given):
    numbers = [number for versions in given["rows"].values() for number, thing in versions]
    return is_count(value) and value >= max(numbers, default=0)


def above_newest(value, given):
    return is_count(value) and value > given["book"].newest()


IN_PLACES = ("places", made(PLACES), unless(errors.InvalidChain, plainlog.are_places))
RING = [
    IN_PLACES,
    ("start", made(1), unless_with(errors.InvalidSpot,
                                   lambda value, given: is_count(value) and value < len(given["places"]))),
    ("ahead", made(3), unless(errors.InvalidCount, is_count)),
]
OPENING = [("stamps", made({2: 1, 3: 0, 9: 0}), unless(errors.InvalidStamps, are_stamps)), ("lines", made(LINES), judge_lines)]
LOST = ("lost", made([2, 9]), unless_with(errors.InvalidPage, pages_in_stamps))
NUMBER = ("number", made(4), unless(errors.InvalidCount, is_count))
PAGE = ("page", made(2), unless_with(errors.InvalidPage, page_in_stamps))
IN_LIFE = ("life", made(LIFE), unless(errors.InvalidRun, plain_life))
HOW_MANY = ("places", made(2), unless(errors.InvalidCount, from_one))
MOMENT = ("moment", made(3), unless_with(errors.InvalidMoment,
                                         lambda value, given: is_count(value) and value <= len(given["life"])))
IN_BOOK = ("book", lambda: BOOK, unless(errors.InvalidBook, is_book))
COMMIT = ("commit", made(3), unless_with(errors.InvalidSnapshot, commit_of))


def key(name, good):
    return (name, made(good), unless(errors.InvalidKey, plainbooks.is_key))


VERSION = [key("key", ("a",)), ("number", made(3), unless_with(errors.InvalidCommit, version_of))]

SPECS = [
    ("chain", "deed_text", [("deed", made(DEED), unless(errors.InvalidDeed, plainlog.is_deed_with_room))]),
    ("chain", "deed_by", [("number", made(3), unless(errors.InvalidCount, from_one)),
                          ("text", made("2 2,3 (put (- 7))"), unless_with(errors.InvalidText, is_text))]),
    ("chain", "line_cells", [("line", made(LINES[1]), unless(errors.InvalidLine, plainlog.is_line))]),
    ("chain", "line_at", [("cells", made(HURT), unless(errors.InvalidCell, plainlog.are_cells))]),
    ("chain", "chain", RING),
    ("chain", "committed", [("chain", made(LINES), unless(errors.InvalidChain, plainlog.is_chain))]),
    ("chain", "next_number", [IN_PLACES, ("least", made(2), unless(errors.InvalidCount, is_count))]),
    ("chain", "next_place", RING, ring_is_full),
    ("chain", "ghosts", RING),
    ("opening", "opened", [*OPENING, ("ahead", made(1), unless_with(errors.InvalidCount, names_ahead))], not_openable),
    ("opening", "told_pages", [*OPENING, LOST, NUMBER]),
    ("opening", "why_untold", [*OPENING, LOST, NUMBER, PAGE]),
    ("opening", "is_why_untold", [*OPENING, ("lost", made([3]), LOST[2]), NUMBER, PAGE, ("value", made([(3, 3)]), judged)]),
    ("opening", "losses", [*OPENING, NUMBER, PAGE]),
    ("opening", "greatest_told", [*OPENING, LOST, ("pages", made([3]), unless_with(errors.InvalidPage, pages_in_stamps))]),
    ("opening", "lines_told", OPENING),
    ("room", "is_life", [("value", made(LIFE), judged)]),
    ("room", "given_up", [IN_LIFE, MOMENT]),
    ("room", "still_needed", [IN_LIFE, MOMENT]),
    ("room", "fits", [IN_LIFE, HOW_MANY]),
    ("room", "first_full", [IN_LIFE, HOW_MANY]),
    ("room", "least_places", [IN_LIFE]),
    ("room", "roots_for", [IN_LIFE, HOW_MANY]),
    ("room", "apart_lines", [IN_LIFE, HOW_MANY], no_roots),
    ("room", "are_apart_lines", [IN_LIFE, HOW_MANY, ("value", made([4]), judged)]),
    ("room", "with_roots", [IN_LIFE, ("positions", made([0, 4]), unless_with(
        errors.InvalidMoment, lambda value, given: ascend_below(value, len(given["life"]))))]),
    ("room", "places_with", [IN_LIFE, ("roots", made(1), unless(errors.InvalidCount, is_count))]),
    ("room", "disc_cells", [("pages", made(3), unless(errors.InvalidCount, from_one)), HOW_MANY]),
    ("room", "most_places", [("cells", made(300), unless(errors.InvalidCount, from_one)),
                             ("pages", made(3), unless(errors.InvalidCount, from_one))]),
    ("versions", "Book", [("rows", lambda: BOOK.rows(), unless(errors.InvalidBook, plainbooks.are_rows)),
                          ("newest", made(4), unless_with(errors.InvalidCommit, newest_of_rows))]),
    ("versions", "state_at", [IN_BOOK, COMMIT]),
    ("versions", "laid", [IN_BOOK, ("commit", made(5), unless_with(errors.InvalidCommit, above_newest)),
                          ("writes", made({("a",): (2,), (0, "z"): None}), unless(
                              errors.InvalidWrites, lambda value: plainbooks.are_writes(value) and value != {}))]),
    ("versions", "look", [IN_BOOK, COMMIT, key("key", ("a",))]),
    ("versions", "between", [IN_BOOK, COMMIT, key("low", (0,)), key("high", ("b",))]),
    ("versions", "first_from", [IN_BOOK, COMMIT, key("key", ("a", 0))]),
    ("versions", "many_between", [IN_BOOK, COMMIT, key("low", (0,)), key("high", ("c",))]),
    ("versions", "seen", [IN_BOOK, COMMIT]),
    ("versions", "sees", [IN_BOOK, COMMIT, *VERSION]),
    ("versions", "span_of", [IN_BOOK, *VERSION]),
    ("versions", "history_of", [IN_BOOK, key("key", ("a",))]),
    ("versions", "commits_of", [IN_BOOK]),
    ("versions", "writes_of", [IN_BOOK, ("number", made(3), unless(errors.InvalidCommit, from_one))]),
]


class LogArgumentsTest(ArgumentsCheck, unittest.TestCase):
    specs = SPECS

    def test_the_last_good_calls_tell_something(self):
        told = {spec[1]: support.function_of(spec[0], spec[1])(*[make() for name, make, judge in spec[2]])
                for spec in SPECS}
        self.assertEqual(told["chain"], [LINES[1]])
        self.assertEqual(told["line_at"], ("mended", LINES[1], 0))
        self.assertEqual(told["opened"], (4, [3, 4]))
        self.assertEqual(told["apart_lines"], [4])
        self.assertIs(told["is_why_untold"], True)
        self.assertIs(told["are_apart_lines"], True)


if __name__ == "__main__":
    unittest.main()
