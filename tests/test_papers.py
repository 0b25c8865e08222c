"""Promises [128] to [131]: papers, read back as the very same, and nothing else read."""

import itertools
import random
import unittest

from tests.plainbooks import in_order, is_key, is_thing, some_rows
from tests.plainhistories import is_history, some_history
from tests.support import errors, is_cells, odd_objects, outcome_of, shape, spoil
from tests.test_histories import EACH, KEYS
from weavestore.papers import book_text, history_text, key_text, picture_text, read_book, read_history, read_key, read_picture
from weavestore.papers import read_thing, read_writes, thing_text, writes_text
from weavestore.versions import Book

ON = ("on",)


def piece(parts):
    if parts is None:
        return "-"
    return ",".join(str(part) for part in parts) if parts else "()"


def plain_writes(writes):
    return "\n".join(piece(key) + " " + piece(writes[key]) for key in in_order(writes))


def plain_picture(picture):
    lines = [f"cells {len(picture)}"]
    return "\n".join(lines + [f"{cell} {content[0]} {content[1]}" for cell, content in enumerate(picture) if content is not None])


def plain_book(book):
    lines = [f"newest {book.newest()}"]
    for key, versions in book.rows().items():
        lines.append(" ".join([piece(key)] + [f"{commit}:{piece(thing)}" for commit, thing in versions]))
    return "\n".join(lines)


def plain_answer(value):
    if value is None:
        return "none"
    if type(value) is bool:
        return {True: "yes", False: "no"}[value]
    if type(value) is int:
        return f"many {value}"
    if type(value) is list:
        return " ".join(["list"] + [piece(key) + ":" + piece(thing) for key, thing in value])
    if is_thing(value):
        return "thing " + piece(value)
    return "pair " + piece(value[0]) + ":" + piece(value[1])


def plain_event(event):
    word = event[0]
    if word == "ask":
        return " ".join(["ask", event[1], event[2][0]] + [piece(key) for key in event[2][1:]] + ["=", plain_answer(event[3])])
    if word == "put":
        return f"put {event[1]} {piece(event[2])} {piece(event[3])}"
    if word == "drop":
        return f"drop {event[1]} {piece(event[2])}"
    if word == "end":
        parts = [f"end {event[1]} {event[2][0]} {event[2][1]}"] + [plain_answer(value) for value in event[2][2:]]
        return " = ".join(parts)
    return " ".join(str(part) for part in event)


def plain_history(history):
    return "\n".join(plain_event(event) for event in history)


def changed(text):
    """Texts that differ from one in one place: a sign, a blank, a nought, a line, a line end."""
    for at in range(len(text) + 1):
        for sign in " 0a,:-=(\n\t":
            yield text[:at] + sign + text[at:]
            if at < len(text):
                yield text[:at] + sign + text[at + 1:]
        if at < len(text):
            yield text[:at] + text[at + 1:]
    lines = text.split("\n")
    for at, line in enumerate(lines):
        yield "\n".join(lines[:at] + lines[at + 1:])
        yield "\n".join(lines[:at] + [line, line] + lines[at + 1:])
        yield "\n".join(lines[:at] + lines[at + 1:] + [line])


class PapersTest(unittest.TestCase):
    def check(self, write, read, fits, plain, goods):
        for good in goods:
            text = write(good)
            self.assertEqual(text, plain(good))
            told = read(text)
            self.assertTrue(told == good, text)
            self.assertEqual(shape(read(text)), shape(told))
        for good in goods[:12]:
            for late in changed(write(good)):
                error, told = outcome_of(read, late)
                if error is None:
                    self.assertIs(fits(told), True, late)
                    self.assertEqual(plain(told), late)
                else:
                    self.assertIs(error.__class__, errors.InvalidText, late)
                    self.assertIs(error.value, late)
        for odd in odd_objects():
            error, told = outcome_of(read, odd)
            if error is None:
                self.assertTrue(type(odd) is str and fits(told) and plain(told) == odd, odd)
            else:
                self.assertIs(error.__class__, errors.InvalidText)
                self.assertIs(error.value, odd)

    def wrong(self, write, wanted, odds):
        for odd in odds:
            error = outcome_of(write, odd)[0]
            self.assertIs(error.__class__, wanted, odd)
            self.assertIs(error.value, odd)

    def refused(self, read, texts):
        for text in texts:
            error = outcome_of(read, text)[0]
            self.assertIs(error.__class__, errors.InvalidText, repr(text))
            self.assertIs(error.value, text)

    def test_keys_and_things(self):
        keys = [("on", "ann"), ("row", 7, "a"), (0,), ("abcdefgh", 999999, 10, "z"), ("a",)]
        self.check(key_text, read_key, is_key, piece, keys)
        self.wrong(key_text, errors.InvalidKey, [odd for odd in odd_objects() if not is_key(odd)])
        things = [None, (), (1, "zz"), ("a",) * 6, (0,), ("on",)]
        self.check(thing_text, read_thing, lambda told: told is None or is_thing(told), piece, things)
        self.wrong(thing_text, errors.InvalidThing, [odd for odd in odd_objects() if odd is not None and not is_thing(odd)])
        self.refused(read_key, ["", "()", "-", "01", "1000000", "a,", ",a", "a,,b", "a b", "A", "abcdefghi", "a,b,c,d,e", "-1", "+1", "a\n", "1_0"])
        self.refused(read_thing, ["", "( )", "--", "01", "1000000", "a,b,c,d,e,f,g", "(),()", "a,()", "-,a", " "])

    def test_writes(self):
        chance = random.Random(128)
        goods = [{}, {("on", "bob"): None, ("on", "ann"): (1,)}, {(1,): (), ("a",): ("b", 2), (0, "z"): None}]
        for _ in range(30):
            goods.append({key: chance.choice([None, (), (1,), ("a", 0)]) for key in chance.sample(KEYS + [("z",), (9,)], chance.randint(1, 5))})
        self.check(writes_text, read_writes, lambda told: type(told) is dict, plain_writes, goods)
        for good in goods:
            self.assertEqual(list(read_writes(writes_text(good))), in_order(good))
        self.wrong(writes_text, errors.InvalidWrites, [None, [], {(): ()}, {("a",): [1]}, {("a",): (True,)}, {"a": ()}, {("a",): ((),)}])
        self.refused(read_writes, ["a", "a ", "a 1 2", "a  1", "a 1\n", "\na 1", "b 1\na 1", "a 1\na 2", "a 1\na 1", "() 1", "- 1", " "])
        self.assertEqual(read_writes(""), {})

    def test_pictures(self):
        great = 2305843009213693950
        goods = [[None], [(0, 0)], [None, (3, 5), None, (0, great)], [None] * 2000, [(10 ** 20, 1)] * 3, [(0, 10)] * 2000]
        for good in goods:
            text = picture_text(good)
            self.assertEqual((text, read_picture(text)), (plain_picture(good), good))
        self.check(picture_text, read_picture, is_cells, plain_picture, goods[:3] + goods[4:5])
        self.wrong(picture_text, errors.InvalidChoice, [[], [None] * 2001, [(0, great + 1)], [(True, 1)], [1], (None,), None, {}, [[0, 1]]])
        self.refused(read_picture, ["", "cells", "cells 0", "cells 2001", "cells 01", "cells 2\n2 0 0", "cells 2\n0 0", "cells 2\n0 0 0 0", "cells 2\n1 0 0\n0 0 0",
                                    "cells 2\n0 0 0\n0 0 0", "cells 2\n0 0 0\n0 1 1", f"cells 2\n0 0 {great + 1}", "cells 2 ", "cell 2", "cells 2\n", "cells " + "9" * 400,
                                    "cells 2\n-1 0 0", "cells a", "cells 2\n0 a 0", "cells  2", "1 2"])

    def test_books(self):
        chance = random.Random(130)
        goods = [Book({}, 0), Book({}, 7), Book({("on", "ann"): [(1, (1,)), (3, None)], ("on", "bob"): [(2, (1, "a")), (10 ** 20, ())]}, 10 ** 20)]
        goods += [Book(some_rows(chance, KEYS, 5), 5) for _ in range(30)]
        self.check(book_text, read_book, lambda told: type(told) is Book, plain_book, goods)
        self.wrong(book_text, errors.InvalidBook, [odd for odd in odd_objects() if type(odd) is not Book])
        self.refused(read_book, ["", "newest", "newest -1", "newest 01", "newest 1\na", "newest 1\na 2:1", "newest 1\na 0:1", "newest 2\na 2:1 1:1", "newest 2\na 1:1 1:1",
                                 "newest 2\nb 1:1\na 1:1", "newest 2\na 1:1\na 2:1", "newest 2\na 1:1\na 1:1", "newest 2\na 1", "newest 2\na 1:", "newest 2\n", "newest 2\na  1:1",
                                 "newest 2\n- 1:1", "newest 2\n() 1:1", "newest 2 ", "newest a", "2"])

    def test_histories(self):
        chance = random.Random(131)
        goods = [[], EACH, EACH[::-1]] + [[event] for event in EACH]
        goods += [[("ask", "x", ("between", ON, (1, "a")), [(ON, ()), (("z",), (3, "b"))]), ("end", "y", ("refused", 0, [], (ON, ())))],
                  [("end", "x", ("refused", 7, answer, other)) for answer, other in itertools.product([None, True, False, 0, 12, (), (1, "a"), [], [(ON, (1,))], (ON, ())], repeat=2)]]
        goods += [some_history(chance, chance.randint(1, 25), ["a", "b"], KEYS) for _ in range(15)]
        for good in goods:
            self.assertEqual(shape(read_history(history_text(good))), shape(good))
        self.check(history_text, read_history, is_history, plain_history, goods[3:] + [goods[0]])
        self.wrong(history_text, errors.InvalidHistory, [None, (), {}, [None], [("ask", "x", ("find", "count staff"), ("told", 1))], [("stand", 1)], [["stand"]], "stand"])
        self.refused(read_history, ["stands", "stand ", " stand", "stand\n", "\nstand", "begin a", "begin a x", "begin A reader", "begin a reader ", "ask a look on", "ask a look on =",
                                    "ask a look on = yes", "ask a look on = many 1", "ask a look on = thing", "ask a look on = thing -", "ask a look on = thing None", "ask a any on oo = none",
                                    "ask a any on oo = 1", "ask a many on oo = many 01", "ask a many on oo = many -1", "ask a many on = many 1", "ask a first on = pair on", "ask a first on = pair on:-",
                                    "ask a first on = thing 1", "ask a between on oo = list ", "ask a between on oo = list on", "ask a between on oo = pair on:1", "ask a find count staff = none",
                                    "ask a find count staff = many 1", "put a on", "put a on -", "put a row,a 1", "drop a", "drop a by", "drop a on 1", "end a", "end a committed", "end a committed 0",
                                    "end a committed 1 ", "end a refused 0", "end a refused 0 = none", "end a refused 0 = none = none = none", "end a ended 01", "end a told 1", "give a", "give_up a",
                                    "give up", "give up A", "fall", "fall -1", "fall 1 2", "ask a look on = none = none", "ask a look on  = none"])
        self.assertEqual(read_history("give up a\nask a look on = thing ()"), [("give up", "a"), ("ask", "a", ("look", ON), ())])

    def test_new_objects(self):
        for read, text in [(read_writes, "a 1"), (read_picture, "cells 2\n1 1 1"), (read_history, "ask a between on oo = list on:1"), (read_book, "newest 1\na 1:1")]:
            told = read(text)
            again = shape(told)
            spoil(told.rows() if read is read_book else told)
            self.assertEqual(shape(read(text)), again)


if __name__ == "__main__":
    unittest.main()
