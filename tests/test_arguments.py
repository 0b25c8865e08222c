"""What the calls of discs, codes, lines, pages, waits, deeds and writing back do with what they are passed."""

import copy
import unittest

from tests import support
from tests.arguments import ArgumentsCheck, judged, unless, unless_with
from tests.support import Disc, Line, all_waits, are_deeds, ascend, ascend_below, errors, is_bare, is_cells, is_code
from tests.support import is_count, is_run, is_content, odd_objects


def made_disc():
    disc = Disc(3)
    disc.write(0, (1, 7))
    disc.barrier()
    disc.write(0, (2, 8))
    disc.write(2, (2, 9))
    return disc


CODE = [[0, 0, 0], [0, 1, 1], [1, 0, 2], [2, 2, 0]]
LINE = Line(11, 8, 2)
RUN = [("write", 0), ("write", 1), ("barrier",), ("tell",), ("write", 0)]
ONE = [("write", 0), ("write", 1), ("tell",)]
OTHER = [("write", 0), ("tell",)]
DEEDS = [(1, 2, [2], ("put",)), (2, 3, [2, 3], ("copy", (None, 4))), (5, 2, [2], ())]


DISC = ("disc", made_disc, unless(errors.InvalidDisc, lambda value: type(value) is Disc))
COUNTS = [
    ("changed", lambda: 0, unless(errors.InvalidCount, is_count)),
    ("unread", lambda: 1, unless(errors.InvalidCount, is_count)),
]
VALUE = ("value", lambda: [0, 1], judged)
IN_CODE = ("code", lambda: [list(page) for page in CODE], unless(errors.InvalidCode, is_code))
IN_LINE = ("line", lambda: Line(11, 8, 2), unless(errors.InvalidLine, lambda value: type(value) is Line))
IN_RUN = ("run", lambda: list(RUN), unless(errors.InvalidRun, is_run))
BARE_ONE = ("one", lambda: list(ONE), unless(errors.InvalidRun, is_bare))
BARE_OTHER = ("other", lambda: list(OTHER), unless(errors.InvalidRun, is_bare))
IN_DEEDS = ("deeds", lambda: copy.deepcopy(DEEDS), unless(errors.InvalidDeeds, are_deeds))


def cell_of_disc(value, given):
    return is_count(value) and value < given["disc"].cells()


def picture_of_disc(value, given):
    disc = given["disc"]
    if not is_cells(value) or len(value) != disc.cells():
        return False
    may = [[content] for content in disc.standing()]
    for cell, content in disc.pending():
        may[cell].append(content)
    return all(content in contents for content, contents in zip(value, may))


def runs_of_disc(value, given):
    if type(value) is not list or not all(type(run) is list for run in value):
        return False
    writes = [write for run in value for write in run]
    if not all(type(write) is tuple and len(write) == 2 for write in writes):
        return False
    return all(cell_of_disc(cell, given) and is_content(content) for cell, content in writes)


def is_cloud(value):
    return type(value) is list and value != [] and all(is_cells(part) and part != [] for part in value)


def row_of_cells(value):
    return is_cells(value) and value != []


def position(name, good):
    return (name, lambda: good, unless_with(errors.InvalidPage, lambda value, given: in_code(value, given["code"])))


def in_code(value, code):
    return is_count(value) and value < len(code)


def pair(name, good):
    def fits(value, given):
        return type(value) is tuple and len(value) == 2 and all(in_code(each, given["code"]) for each in value)

    return (name, lambda: good, unless_with(errors.InvalidPage, fits))


def unlike_position(name, good, elder):
    def fits(value, given):
        return in_code(value, given["code"]) and all(value != given[each] for each in elder)

    return (name, lambda: good, unless_with(errors.InvalidPage, fits))


def is_picture_of_two(value, given):
    code = given["code"]
    if type(value) is not list or len(value) != len(code[0]) or not all(is_count(sign) for sign in value):
        return False
    return any(all(sign in two for sign, *two in zip(value, x, y)) for x in code for y in code)


def below_many_pictures(value, given):
    many = 1
    for cell in range(given["disc"].cells()):
        pending = [content for at, content in given["disc"].pending() if at == cell]
        many *= len(set(pending + [given["disc"].standing()[cell]]))
    return is_count(value) and value < many


def page_number(name, good):
    def fits(value, given):
        return is_count(value) and value < given["line"].prime() ** given["line"].size()

    return (name, lambda: good, unless_with(errors.InvalidPage, fits))


def signs_of_line(value, given):
    return support.is_row(value, given["line"].prime()) and len(value) == given["line"].cells()


def page_of_line(value, given):
    line = given["line"]
    if not signs_of_line(value, given) or None in value:
        return False
    x = [(low + high * (cell + 1)) % line.prime() for low in range(11) for high in range(11) for cell in range(8)]
    return any(x[at: at + 8] == value for at in range(0, len(x), 8)) if line == LINE else True


def prime_of_line(value):
    if not is_count(value):
        return False
    small = value < 1000 and value > 2 and all(value % by for by in range(2, value))
    return small or value == 2**61 - 1


def too_many_unread(given):
    if given["value"].count(None) > given["unread"]:
        return errors.InvalidPage, given["value"]
    line = given["line"]
    if line.cells() <= 4 * (line.size() - 1) + 3 * given["changed"] + given["unread"]:
        return errors.Refused, given["line"]
    return None


def moment_of(value, given):
    return is_count(value) and value <= len(given["run"])


def wait_of(value, given):
    return support.is_in(value, all_waits(given["run"]))


def waits_in(name, run, good):
    def fits(value, given):
        return support.are_waits(given[run], value)

    return (name, lambda: list(good), unless_with(errors.InvalidMoment, fits))


def places_of(value, given):
    return ascend_below(value, len(given["run"]))


def order_of(value, given):
    if type(value) is not list or not all(type(turn) is int for turn in value):
        return False
    return sorted(value) == [0] * len(given["one"]) + [1] * len(given["other"])


def is_due(value):
    if type(value) is not list or not all(type(part) is tuple and len(part) == 2 for part in value):
        return False
    return all(is_count(ready) and is_count(last) and ready < last for ready, last in value)


def stamps_of(name, good):
    def fits(value, given):
        return support.are_stamps(given["deeds"], value)

    return (name, lambda: dict(good), unless_with(errors.InvalidStamps, fits))


def greater_stamps(value, given):
    if not support.are_stamps(given["deeds"], value):
        return False
    return all(value[page] >= stamp for page, stamp in given["one"].items())


def right_stamps(value, given):
    return support.are_stamps(given["deeds"], value) and support.are_right(given["deeds"], value)


def numbers_of(value, given):
    return ascend(value) and all(number in [deed[0] for deed in given["deeds"]] for number in value)


def next_deed(value, given):
    return support.is_deed(value) and all(value[0] > deed[0] for deed in given["deeds"])


def page_of_deeds(value, given):
    return is_count(value) and value in support.newest_of(given["deeds"])


def no_such_deed(given):
    if given["number"] not in [deed[0] for deed in given["deeds"]]:
        return errors.InvalidDeed, given["number"]
    return None


def has_ring(given):
    if support.all_rings(list(given["stamps"]), support.plain_waits(given["deeds"], given["stamps"])):
        return errors.Refused, given["stamps"]
    return None


def is_text(value):
    signs = " -,.:;<=>()+*/?!0123456789abcdefghijklmnopqrstuvwxyz"
    return type(value) is str and len(value) <= 120 and set(value) <= set(signs)


def has_text(value):
    many = 0
    while is_count(value) and value > 0 and value % 53 > 0:
        value, many = value // 53, many + 1
    return is_count(value) and value == 0 and many <= 120


def not_as_long(given):
    return (errors.Unlike, given["other"]) if len(given["one"]) != len(given["other"]) else None


def no_page_for_each_sign(given):
    greatest = max(sign for page in given["code"] for sign in page)
    return (errors.Unlike, given["inner"]) if greatest >= len(given["inner"]) else None


RIGHT = ("stamps", lambda: {2: 0, 3: 2}, unless_with(errors.InvalidStamps, right_stamps))
ANY_STAMPS = stamps_of("stamps", {2: 1, 3: 0})
NUMBER = ("number", lambda: 2, unless(errors.InvalidCount, is_count))
TWO_STAMPS = [stamps_of("one", {2: 1, 3: 0}),
              ("other", lambda: {2: 5, 3: 0}, unless_with(errors.InvalidStamps, greater_stamps))]
NEXT_DEED = ("deed", lambda: (7, 3, [2, 3, 9], ("mix",)), unless_with(errors.InvalidDeed, next_deed))
WRITING = [
    IN_DEEDS,
    RIGHT,
    ("page", lambda: 2, unless_with(errors.InvalidPage, page_of_deeds)),
    ("lines", lambda: 3, unless(errors.InvalidCount, is_count)),
    ("unbarred", lambda: [2, 9], unless(errors.InvalidPage, ascend)),
    ("mixed", lambda: [3], unless(errors.InvalidPage, ascend)),
]
MOMENT = ("moment", lambda: 4, unless_with(errors.InvalidMoment, moment_of))
WAIT = ("wait", lambda: (0, 3), unless_with(errors.InvalidMoment, wait_of))
WAITS = waits_in("waits", "run", [(0, 1), (1, 3), (1, 4)])
PLACES = ("places", lambda: [1, 4], unless_with(errors.InvalidMoment, places_of))
TWO_RUNS = [BARE_ONE, waits_in("waits", "one", [(0, 1), (1, 2)]), BARE_OTHER, waits_in("late", "other", [(0, 1)])]
ORDER = ("order", lambda: [0, 1, 0, 0, 1], unless_with(errors.InvalidOrder, order_of))
DUE = ("due", lambda: [(0, 4), (2, 6), (5, 7)], unless(errors.InvalidMoment, is_due))
PLACE = ("place", lambda: 1, unless(errors.InvalidPage, is_count))
TEXT = ("text", lambda: "ann 7", unless(errors.InvalidText, is_text))

SPECS = [
    ("disc", "Disc", [("cells", lambda: 3, unless(errors.InvalidCount, lambda value: is_count(value) and 0 < value <= 2000))]),
    ("disc", "may_hold", [DISC, ("cell", lambda: 0, unless_with(errors.InvalidCell, cell_of_disc))]),
    ("disc", "many_pictures", [DISC]),
    ("disc", "picture_at", [DISC, ("number", lambda: 3, unless_with(errors.InvalidCount, below_many_pictures))]),
    ("disc", "number_of_picture",
     [DISC, ("picture", lambda: [(2, 8), None, None], unless_with(errors.InvalidChoice, picture_of_disc))]),
    ("disc", "is_picture", [DISC, ("value", lambda: [(2, 8), None, None], judged)]),
    ("disc", "disc_of", [("picture", lambda: [None, (1, 2)], unless(errors.InvalidChoice, row_of_cells))]),
    ("disc", "fall", [DISC, ("picture", lambda: [(1, 7), None, None], unless_with(errors.InvalidChoice, picture_of_disc))]),
    ("disc", "cloud", [DISC, ("runs", lambda: [[(1, (4, 1))], []], unless_with(errors.InvalidRun, runs_of_disc))]),
    ("disc", "is_in_cloud", [("cloud", lambda: [[None, (4, 1)], [None]], unless(errors.InvalidChoice, is_cloud)),
                             ("value", lambda: [(4, 1), None], judged)]),
    ("disc", "many_in_cloud", [("cloud", lambda: [[None, (4, 1)], [None]], unless(errors.InvalidChoice, is_cloud))]),
    ("disc", "unlike_cells", [("one", lambda: [None, (1, 7)], unless(errors.InvalidChoice, row_of_cells)),
                              ("other", lambda: [None, (1, 8)], unless(errors.InvalidChoice, row_of_cells))], not_as_long),
    ("codes", "is_code", [("value", lambda: [[0], [1]], judged)]),
    ("codes", "is_picture", [IN_CODE, position("one", 1), position("other", 2), VALUE, *COUNTS]),
    ("codes", "twos", [IN_CODE, VALUE, *COUNTS]),
    ("codes", "told_pages", [IN_CODE, VALUE, *COUNTS]),
    ("codes", "told_page", [IN_CODE, VALUE, *COUNTS]),
    ("codes", "is_safe", [IN_CODE, *COUNTS]),
    ("codes", "cells_unlike", [IN_CODE, position("one", 1), unlike_position("other", 2, ["one"]),
                               unlike_position("third", 3, ["one", "other"])]),
    ("codes", "cells_parted", [IN_CODE, pair("pair", (0, 1)), pair("late", (3, 2))]),
    ("codes", "bad_picture", [IN_CODE, *COUNTS]),
    ("codes", "is_bad_picture", [IN_CODE, *COUNTS, ("value", lambda: ([0, 1, 0], [(0, 2), (1, 1)]), judged)]),
    ("codes", "strengths", [IN_CODE]),
    ("codes", "composed", [IN_CODE, ("inner", lambda: [[0], [1], [2]], unless(errors.InvalidCode, is_code))],
     no_page_for_each_sign),
    ("codes", "overwritten", [
        IN_CODE, ("value", lambda: [0, 1, 0], unless_with(errors.InvalidPage, is_picture_of_two)), position("one", 1),
        ("cells", lambda: [0, 2],
         unless_with(errors.InvalidCell, lambda value, given: ascend_below(value, len(given["code"][0]))))]),
    ("lines", "Line", [
        ("prime", lambda: 11, unless(errors.InvalidLine, prime_of_line)),
        ("cells", lambda: 8, unless_with(errors.InvalidLine,
                                         lambda value, given: is_count(value) and 1 <= value <= given["prime"])),
        ("size", lambda: 2, unless_with(errors.InvalidLine, lambda value, given: is_count(value) and value > 0 and
                                        given["cells"] > 4 * (value - 1)))]),
    ("lines", "page_of", [IN_LINE, page_number("number", 37)]),
    ("lines", "number_of", [IN_LINE, ("page", lambda: [7, 10, 2, 5, 8, 0, 3, 6], unless_with(errors.InvalidPage, page_of_line))]),
    ("lines", "holds", [IN_LINE, *COUNTS]),
    ("lines", "agreeing", [IN_LINE, page_number("number", 37),
                           ("value", lambda: [7, None, 2, 5, 8, 0, 3, 6], unless_with(errors.InvalidPage, signs_of_line))]),
    ("lines", "read_line", [
        IN_LINE, ("value", lambda: [7, None, 2, 4, 2, 0, 9, 7], unless_with(errors.InvalidPage, signs_of_line)), *COUNTS,
    ], too_many_unread),
    ("lines", "mixture_of", [
        IN_LINE, page_number("number", 37), page_number("other", 100),
        ("cells", lambda: [3, 4],
         unless_with(errors.InvalidCell, lambda value, given: ascend_below(value, given["line"].cells())))]),
    ("pages", "text_number", [TEXT]),
    ("pages", "number_text", [("number", lambda: 1511, unless(errors.InvalidPage, has_text))]),
    ("pages", "page_line", []),
    ("pages", "page_cells", [PLACE]),
    ("pages", "page_writes", [PLACE, TEXT]),
    ("waits", "is_run", [("value", lambda: list(RUN), judged)]),
    ("waits", "are_waits", [IN_RUN, ("value", lambda: [(0, 1)], judged)]),
    ("waits", "may_stand", [IN_RUN, MOMENT]),
    ("waits", "is_moment_picture", [IN_RUN, MOMENT, ("value", lambda: {0: 0, 1: 1}, judged)]),
    ("waits", "is_kept", [IN_RUN, WAIT]),
    ("waits", "why_broken", [IN_RUN, WAIT]),
    ("waits", "is_why_broken", [IN_RUN, WAIT, ("value", lambda: (4, {0: 0, 1: 1}), judged)]),
    ("waits", "broken", [IN_RUN, WAITS]),
    ("waits", "is_enough", [IN_RUN, WAITS, PLACES]),
    ("waits", "barriers_for", [IN_RUN, WAITS]),
    ("waits", "many_least", [IN_RUN, WAITS]),
    ("waits", "apart_waits", [IN_RUN, WAITS]),
    ("waits", "are_apart", [IN_RUN, WAITS, ("value", lambda: [(0, 1)], judged)]),
    ("waits", "with_barriers", [IN_RUN, PLACES]),
    ("waits", "waits_then", [IN_RUN, WAITS, PLACES]),
    ("waits", "bare", [IN_RUN]),
    ("waits", "needless", [IN_RUN, WAITS]),
    ("waits", "spared", [IN_RUN, WAITS]),
    ("waits", "woven", [BARE_ONE, BARE_OTHER, ORDER]),
    ("waits", "waits_woven", [*TWO_RUNS, ORDER]),
    ("waits", "best_order", TWO_RUNS),
    ("waits", "is_best_order", [*TWO_RUNS, ("value", lambda: [0, 1, 0, 0, 1], judged)]),
    ("waits", "syncs", [DUE]),
    ("waits", "served", [DUE, ("moments", lambda: [4, 7], unless(errors.InvalidMoment, ascend))]),
    ("deeds", "is_deed", [("value", lambda: copy.deepcopy(DEEDS[1]), judged)]),
    ("deeds", "are_deeds", [("value", lambda: copy.deepcopy(DEEDS), judged)]),
    ("deeds", "stamps_behind", [IN_DEEDS, NUMBER]),
    ("deeds", "stamps_read", [IN_DEEDS, NUMBER], no_such_deed),
    ("deeds", "are_stamps", [IN_DEEDS, ("value", lambda: {2: 0, 3: 2}, judged)]),
    ("deeds", "walked", [IN_DEEDS, ANY_STAMPS,
                         ("numbers", lambda: [1, 5], unless_with(errors.InvalidDeeds, numbers_of))]),
    ("deeds", "are_right", [IN_DEEDS, ANY_STAMPS]),
    ("deeds", "redone", [IN_DEEDS, ANY_STAMPS]),
    ("deeds", "why_wrong", [IN_DEEDS, ANY_STAMPS]),
    ("deeds", "is_why_wrong", [IN_DEEDS, ANY_STAMPS, ("value", lambda: (2, 2), judged)]),
    ("deeds", "newest_right", [IN_DEEDS, ANY_STAMPS]),
    ("deeds", "next_right", [IN_DEEDS, ANY_STAMPS]),
    ("deeds", "all_mixes_right", [IN_DEEDS, *TWO_STAMPS]),
    ("deeds", "wrong_mix", [IN_DEEDS, *TWO_STAMPS]),
    ("deeds", "is_wrong_mix", [IN_DEEDS, *TWO_STAMPS, ("value", lambda: {2: 5, 3: 0}, judged)]),
    ("backs", "waits", [IN_DEEDS, RIGHT]),
    ("backs", "free_pages", [IN_DEEDS, RIGHT]),
    ("backs", "ring", [IN_DEEDS, RIGHT]),
    ("backs", "is_ring", [IN_DEEDS, RIGHT, ("value", lambda: [2, 3], judged)]),
    ("backs", "groups", [IN_DEEDS, RIGHT]),
    ("backs", "row_of_waits", [IN_DEEDS, RIGHT], has_ring),
    ("backs", "is_row_of_waits", [IN_DEEDS, RIGHT, ("value", lambda: [2], judged)], has_ring),
    ("backs", "closes_ring", [IN_DEEDS, RIGHT, NEXT_DEED], has_ring),
    ("backs", "ahead_of", [IN_DEEDS, RIGHT, NEXT_DEED], has_ring),
    ("backs", "may_write", WRITING),
    ("backs", "why_not_write", WRITING),
]


class ArgumentsTest(ArgumentsCheck, unittest.TestCase):
    specs = SPECS

    def test_codes_tell_of_any_object_that_it_is_no_picture(self):
        for odd in odd_objects():
            for name in ["twos", "told_pages"]:
                self.assertEqual(support.function_of("codes", name)(CODE, odd, 1, 1), [])
            self.assertIsNone(support.function_of("codes", "told_page")(CODE, odd, 1, 1))
            self.assertIs(support.function_of("codes", "is_picture")(CODE, 0, 1, odd, 1, 1), False)


if __name__ == "__main__":
    unittest.main()
