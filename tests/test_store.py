"""Promises [116] to [124]: the store, deed by deed, beside one of the test's own."""

import random
import unittest

from tests.plainstore import Plain
from tests.support import errors, odd_objects, outcome_of, shape, spoil
from weavestore.chain import line_cells
from weavestore.disc import held_by_cells
from weavestore.pages import page_cells, page_writes
from weavestore.shelves import book_in, is_tidy
from weavestore.store import Store, replayed
from weavestore.versions import state_at
from weavestore.waits import are_waits, broken

KEYS = [("on", "ann"), ("on", "bob"), ("a",), (1, "b"), ("c", 2), ("rows", "x"), ("zz",)]
ANN, BOB = KEYS[:2]
LONG = ("abcdefgh",) * 6


def both(pages, places):
    return Store(pages, places), Plain(pages, places)


def told_of(store):
    """All that a running store tells."""
    return shape([store.disc(), store.run(), store.waits(), store.lines(), store.lines_standing(), store.stamps(), store.stamps_standing(), store.mixed_pages(),
                  store.free_places(), store.pins(), store.book(), store.newest(), store.standing(), store.under_way(), store.held(),
                  [content if at == 1 else dict(content) if at else content for at, content in enumerate(store.shelf())], store.record(), store.is_down()])


def plain_of(plain):
    weave = plain.weave
    return shape([plain.disc, plain.run, plain.waits(), [line for line, place in plain.lines], plain.lines_standing, plain.stamps, plain.stood, plain.mixed,
                  plain.free(), plain.pins(), weave.book(), weave.newest(), weave.standing(), weave.under_way(), weave.held(),
                  [(*plain.shelf[0][:3], plain.pins())] + plain.shelf[1:], plain.record, plain.down])


class Day(unittest.TestCase):
    """A store and a plain one, which do the same."""

    def start(self, pages, places):
        self.store, self.plain = both(pages, places)
        self.pages = pages
        self.seen = {}
        self.check()

    def do(self, name, *things):
        """One deed on both; returns what is told, or the word of the error."""
        outcomes = []
        for call in [lambda: getattr(self.store, name)(*things), lambda: self.plain.call(name, *things)]:
            try:
                outcomes.append(("told", call()))
            except errors.StoreError as error:
                outcomes.append((error.__class__.__name__, error.value))
        self.assertEqual(shape(outcomes[0]), shape(outcomes[1]), (name, things))
        word = outcomes[0][0]
        self.seen[(name, word)] = self.seen.get((name, word), 0) + 1
        self.check()
        return outcomes[0][1] if word == "told" else word

    def check(self):
        self.assertIs(self.store.is_down(), self.plain.down)
        self.assertTrue(self.store.disc() == self.plain.disc)
        if self.plain.down:
            self.assertEqual(shape(self.store.record()), shape(self.plain.record))
            return
        self.assertEqual(told_of(self.store), plain_of(self.plain))
        run, waits = self.store.run(), self.store.waits()
        self.assertTrue(run == [] and waits == [] or are_waits(run, waits) and broken(run, waits) == [])
        for page in range(self.pages):
            self.assertEqual(self.store.why_not_write(page), self.plain.why_not_write(page))
        shelf = self.store.shelf()
        self.assertIs(is_tidy(shelf), True)
        self.assertTrue(book_in(shelf, self.store.newest()) == self.store.book())
        for name in self.store.under_way():
            self.assertEqual(self.store.ahead(name), self.plain.ahead(name))

    def put(self, writes, name="w"):
        """A transaction that writes alone."""
        self.do("begin", name, "writer")
        for key, thing in writes.items():
            if thing is None:
                self.do("drop", name, key)
            else:
                self.do("put", name, key, thing)
        return self.do("end", name)

    def back(self):
        """Writes all pages back that may be, with syncs, until all stand."""
        self.do("sync")
        while True:
            free = [page for page in range(self.pages) if self.store.why_not_write(page) == []]
            for page in free:
                self.do("write_back", page)
            self.do("sync")
            if not free:
                return


def some_deed(chance, store, pages):
    """A deed by chance, most often one that can be done."""
    name = chance.choice("abc")
    if chance.random() < 0.6:
        if name not in store.under_way():
            return ("begin", name, chance.choice(["reader", "writer", "writer", "writer"]))
        word = chance.choice(["put", "put", "put", "end", "end", "ask", "drop", "deed"])
    else:
        word = chance.choice(["sync", "sync", "write_back", "write_back", "write_back", "root", "root", "clear", "join", "pin", "unpin", "mend", "give_up", "end"])
    if word == "put":
        return (word, name, chance.choice(KEYS), chance.choice([(), (1,), LONG, ("abcdefgh",) * 3]))
    if word == "ask":
        return (word, name, chance.choice([("many", (0,), ("zzz",)), ("look", chance.choice(KEYS)), ("first", ("b",)), ("find", "count staff")]))
    if word == "drop":
        return (word, name, chance.choice(KEYS))
    if word == "deed":
        return (word, name, chance.choice(["make table staff (name word, pay count)", "put into staff ('ann', 7)", "erase from staff", "unmake table staff"]))
    if word == "write_back":
        free = [page for page in range(pages) if store.why_not_write(page) == []]
        return (word, chance.choice(free) if free else chance.randrange(pages))
    if word == "mend":
        return (word, chance.choice(store.mixed_pages() or list(range(pages))))
    if word == "pin":
        return (word, chance.choice("pq"), chance.choice([store.standing(), 0] + store.held()))
    if word == "unpin":
        return (word, chance.choice("pq"))
    return (word,) if word in ("sync", "root", "clear", "join") else (word, name)


class DaysTest(Day):
    def test_days_with_cuts_and_falls(self):
        chance = random.Random(116)
        seen = {}
        for _ in range(28):
            self.start(*chance.choice([(3, 4), (4, 8), (5, 12), (6, 20), (7, 40)]))
            states, most = {0: {}}, 0
            for day in range(3):
                if chance.random() < 0.5:
                    self.do("cut", chance.choice([chance.randrange(90), chance.randrange(90), chance.randrange(700)]))
                for _ in range(chance.randrange(10, 45)):
                    if self.store.is_down():
                        break
                    self.do(*some_deed(chance, self.store, self.pages))
                    if not self.store.is_down():
                        most = self.store.standing()
                        states[self.store.newest()] = state_at(self.store.book(), self.store.newest())
                ended = [deed for deed in self.store.record() if deed[0] == "end"]
                self.do("fall", [chance.choice(held) for held in held_by_cells(self.store.disc())])
                newest = self.do("wake")
                self.assertGreaterEqual(newest, most)
                if newest in states:
                    self.assertEqual(state_at(self.store.book(), newest), states[newest])
                else:
                    # The commit of the deed amid which the power was lost.
                    self.assertTrue(ended)
                    states[newest] = state_at(self.store.book(), newest)
                states = {commit: states[commit] for commit in states if commit <= newest}
                for commit in self.store.pins().values():
                    self.assertEqual(state_at(self.store.book(), commit), states[commit])
                most = newest
            late = replayed(Store(self.pages, self.plain.places), self.store.record())
            self.assertEqual(told_of(late), told_of(self.store))
            for each, many in self.seen.items():
                seen[each] = seen.get(each, 0) + many
        for each in [("end", "told"), ("end", "Full"), ("write_back", "told"), ("write_back", "Refused"), ("root", "told"), ("root", "Refused"), ("clear", "told"),
                     ("join", "Refused"), ("pin", "told"), ("unpin", "told"), ("mend", "told"), ("end", "Fallen"), ("write_back", "Fallen"), ("pin", "Full"), ("deed", "told"), ("ask", "told")]:
            self.assertGreater(seen.get(each, 0), 2, (each, seen))


class NewStoreTest(Day):
    def test_what_stands_at_first(self):
        for pages, places in [(3, 4), (12, 40), (5, 9)]:
            self.start(pages, places)
            disc = self.store.disc()
            self.assertEqual((disc.cells(), disc.pending()), (61 * pages + 20 * places, []))
            texts = ["0 1 0 0", "0 2"] + ["0 "] * (pages - 2)
            signs = [sign for page, text in enumerate(texts) for cell, sign in page_writes(page, text)]
            self.assertEqual(disc.standing(), signs + [None] * (20 * places))
            self.assertEqual((self.store.free_places(), self.store.run(), self.store.waits(), self.store.lines(), self.store.record()), (places, [], [], [], []))
            self.assertEqual([self.store.why_not_write(page) for page in range(pages)], [[("newest",)]] * pages)
            self.assertEqual((self.store.lines_standing(), self.store.mixed_pages(), self.store.pins()), (0, [], {}))
        for row, value in [((2, None), 2), ((13, 4), 13), ((3, 3), 3), ((3, 41), 41), ((True, 4), True), ((3, "4"), "4"), ((None, None), None)]:
            error = outcome_of(Store, *row)[0]
            self.assertIs(error.__class__, errors.InvalidCount)
            self.assertIs(error.value, value)

    def test_a_commit_step_by_step(self):
        self.start(3, 4)
        self.assertEqual(self.put({ANN: (1,), BOB: (2,)}), ("committed", 1))
        lines = self.store.lines()
        self.assertEqual(lines, [(1, 0, False, (1, 2, [2], ("put", ANN, 1, (1,)))), (2, 1, True, (2, 2, [2], ("put", BOB, 1, (2,))))])
        cells = [(183 + at, content) for at, content in enumerate(line_cells(lines[0]) + line_cells(lines[1]))]
        self.assertEqual(self.store.disc().pending(), cells)
        self.assertEqual(self.store.run(), [("write", cell) for cell, content in cells])
        self.assertEqual((self.store.free_places(), self.store.standing(), self.store.why_not_write(2)), (2, 0, [("line", 2)]))
        self.assertEqual((self.do("sync"), self.store.run()[40:], self.store.waits()), (1, [("barrier",), ("tell",)], [(39, 41)]))
        self.assertIsNone(self.do("write_back", 2))
        self.assertEqual((self.store.why_not_write(2), self.store.stamps_standing()[2], self.store.waits()), ([("newest",)], 0, [(39, 41), (39, 42)]))
        self.put({ANN: None})
        self.assertEqual(self.store.why_not_write(2), [("line", 3), ("unbarred",)])
        self.assertEqual((self.do("sync"), self.store.why_not_write(2), self.store.stamps_standing()[2]), (2, [], 2))

    def test_what_makes_no_step(self):
        self.start(3, 6)
        self.put({ANN: (1,)})
        held = shape([self.store.disc(), self.store.run(), self.store.waits()])
        for deed in [("begin", "r", "reader"), ("begin", "w", "writer"), ("begin", "x", "writer"), ("ask", "r", ("look", ANN)), ("ask", "w", ("look", ANN)), ("put", "w", ANN, (2,)),
                     ("deed", "x", "make table staff (a word)"), ("give_up", "x"), ("end", "r")]:
            self.do(*deed)
        told = [self.store.would_end("w"), self.store.looks_of("w"), self.store.writes_of("w"), self.store.turned_looks("w"), self.store.held(), self.store.under_way()]
        self.assertEqual(told, [("committed", 2), [(("look", ANN), (1,))], {ANN: (2,)}, [], [1], ["w"]])
        self.assertEqual(shape([self.store.disc(), self.store.run(), self.store.waits()]), held)
        self.put({ANN: (3,)}, "y")
        held = shape([self.store.disc(), self.store.run(), self.store.waits()])
        self.assertEqual(self.do("end", "w"), ("refused", 0, (1,), (3,)))
        self.assertEqual(shape([self.store.disc(), self.store.run(), self.store.waits()]), held)
        self.assertEqual([self.store.is_told(each) for each in [("committed", 1), ("refused", 0, 1, 2), ("ended", 0)]], [False, True, True])


class RingTest(Day):
    def crowd(self):
        """Pages 2 and 3 that wait for each other's copies: parted, cleared, to be joined."""
        self.start(4, 40)
        self.put({("a",): LONG, ("m",): LONG})
        self.assertEqual([entry[1] for entry in self.store.shelf()[1]], [2, 3])
        self.put({("m",): None})
        self.do("sync")
        self.do("clear")

    def test_a_join_that_would_close_a_ring(self):
        self.crowd()
        self.assertEqual(self.do("join"), "Refused")
        self.assertEqual(self.store.why_not_write(2)[-1][:2], ("wait", 3))
        self.do("sync")
        self.do("write_back", 3)
        self.assertEqual(self.do("join"), "Refused")
        self.do("sync")
        self.assertIsNone(self.do("join"))
        self.assertEqual(self.store.shelf()[1], [(None, 2)])
        self.assertEqual(self.do("join"), "Refused")

    def test_an_end_that_would_close_a_ring_one_that_is_full_and_one_that_is_both(self):
        self.crowd()
        self.do("sync")
        self.do("write_back", 3)
        self.do("sync")
        self.do("join")
        # The next parting copies to the page that has to be trimmed on the disc first.
        self.do("begin", "w", "writer")
        for key, thing in [(("m",), ("abcdefgh",) * 4), (("n",), LONG)]:
            self.do("put", "w", key, thing)
        before = told_of(self.store)
        groups = self.store.ahead("w")
        self.assertEqual(groups, [[2]])
        self.assertEqual(self.do("end", "w"), "Refused")
        self.assertEqual(told_of(self.store), before)
        self.assertEqual(self.store.under_way(), ["w"])
        late = self.store.copy()
        many = self.store.free_places()
        for at in range(many - 3):
            self.do("pin", "p", self.store.standing())
        # Both: too few places, and a ring; told is Full.
        self.assertEqual(self.store.free_places(), 3)
        self.assertEqual(self.do("end", "w"), "Full")
        self.assertEqual(self.store.ahead("w"), groups)
        late.sync()
        for group in late.ahead("w"):
            for page in group:
                if late.why_not_write(page) == []:
                    late.write_back(page)
            late.sync()
        self.assertEqual((late.ahead("w"), late.end("w")), ([], ("committed", 3)))

    def test_days_of_partings_and_joinings(self):
        chance = random.Random(118)
        seen, groups = {}, {}
        for _ in range(8):
            self.start(chance.choice([4, 5]), 40)
            keys = [("a",), ("g",), ("m",), ("s",)]
            for _ in range(40):
                word = chance.choice(["commit"] * 5 + ["clear", "clear", "join", "join", "sync", "write_back", "write_back"])
                if word == "commit":
                    self.do("begin", "w", "writer")
                    for key in chance.sample(keys, chance.randint(1, 2)):
                        if chance.random() < 0.55:
                            self.do("put", "w", key, chance.choice([LONG, ("abcdefgh",) * 5]))
                        else:
                            self.do("drop", "w", key)
                    ahead = self.store.ahead("w")
                    groups[len(ahead)] = groups.get(len(ahead), 0) + 1
                    if self.do("end", "w") in ("Full", "Refused"):
                        self.do("give_up", "w")
                    self.do("sync")
                elif word == "write_back":
                    free = [page for page in range(self.pages) if self.store.why_not_write(page) == []]
                    if free:
                        self.do(word, chance.choice(free))
                    elif self.store.free_places() < 9:
                        self.do("root")
                else:
                    self.do(word)
            self.do("fall", [chance.choice(held) for held in held_by_cells(self.store.disc())])
            self.do("wake")
            for each, many in self.seen.items():
                seen[each] = seen.get(each, 0) + many
        for each in [("end", "Refused"), ("join", "told"), ("join", "Refused")]:
            self.assertGreater(seen.get(each, 0), 3, seen)
        self.assertTrue(groups.get(1, 0) > 3, groups)

    def test_ahead_where_nothing_is_told(self):
        self.start(3, 4)
        self.assertIs(outcome_of(self.store.ahead, "w")[0].__class__, errors.InvalidName)
        self.do("begin", "w", "writer")
        self.assertEqual(self.store.ahead("w"), [])
        self.do("put", "w", ANN, LONG)
        self.do("put", "w", BOB, LONG)
        self.assertEqual(self.store.ahead("w"), [])
        self.assertEqual(self.do("end", "w"), "Full")
        self.do("begin", "r", "reader")
        self.assertEqual(self.store.ahead("r"), [])

    def test_a_ring_of_places_that_goes_round(self):
        self.start(3, 4)
        for at in range(12):
            told = self.put({ANN: (at,)})
            if told == "Full":
                self.do("give_up", "w")
            self.back()
            self.do("root")
            self.back()
        self.assertGreaterEqual(self.store.newest(), 8)
        self.assertEqual(self.store.book().rows()[ANN][-1][1], (self.store.newest() - 1 if self.store.newest() == 12 else self.store.book().rows()[ANN][-1][1][0],))
        self.assertTrue(self.store.lines()[0][0] > 10)

    def test_all_places_taken_but_one_and_by_a_root(self):
        self.start(3, 4)
        for at in range(3):
            self.assertEqual(self.put({ANN: (at,)}), ("committed", at + 1))
        self.assertEqual((self.store.free_places(), self.put({ANN: (9,)})), (1, "Full"))
        self.do("give_up", "w")
        self.assertEqual(self.do("pin", "p", 0), "Full")
        # What may go at each page wants a place, too; nothing held is none.
        self.assertEqual(self.do("clear"), "Full")
        self.assertEqual(self.do("root"), "Refused")
        self.back()
        self.assertEqual(self.do("root"), 3)
        self.assertEqual((self.store.free_places(), self.do("root")), (0, "Refused"))
        # All four places are taken: also a fall finds all of them, once round.
        picture = self.store.disc().newest()
        with self.store.trial():
            self.store.fall(picture)
            self.assertEqual(self.store.wake(), 3)
            self.assertEqual((self.store.free_places(), len(self.store.lines())), (0, 4))
        self.back()
        self.assertEqual((self.store.free_places(), self.store.lines()[0][3][3][:2]), (3, ("begin", 4)))
        self.assertEqual(self.put({BOB: ()}), ("committed", 4))

    def test_a_root_that_is_full(self):
        self.start(3, 4)
        for at in range(3):
            self.put({ANN: (at,)})
        self.do("sync")
        self.do("write_back", 2)
        self.do("sync")
        self.do("root")
        # The last place is taken by a root that did not stand yet: there is nothing more to be given up.
        self.assertEqual(self.do("root"), "Refused")
        self.back()
        self.put({ANN: (7,)})
        self.back()
        self.do("pin", "p", 4)
        self.put({ANN: (8,)})
        self.assertEqual(self.store.free_places(), 1 if self.store.newest() == 4 else 0)


class WaitsTest(Day):
    def parted(self):
        """Pages 2 and 3 behind a parting: 2 waits for the copy in 3."""
        self.start(4, 40)
        self.put({("a",): LONG, ("m",): LONG})
        self.do("sync")

    def pair(self, early, late):
        """The wait of the last write of one page's writing and of the first write of another one's."""
        run = self.store.run()
        first = {page: run.index(("write", 61 * page)) for page in (early, late)}
        return (first[early] + 60, first[late])

    def test_a_page_waits_for_the_copy_of_its_rows(self):
        self.parted()
        self.assertEqual(self.store.why_not_write(2), [("wait", 3, 2)])
        self.do("write_back", 3)
        self.assertEqual(self.store.why_not_write(2), [("wait", 3, 2)])
        self.do("sync")
        self.do("write_back", 2)
        self.assertIn(self.pair(3, 2), self.store.waits())
        self.do("sync")
        self.do("write_back", 1)
        self.do("sync")
        self.assertEqual(self.store.waits(), sorted({(99, 101), (99, 102), self.pair(3, 2), (79, 165), (99, 165), (59, 228), (99, 228)}))
        # A later writing waits for its own page's elder one, not for the copy again.
        self.put({("a",): None})
        self.do("sync")
        self.do("write_back", 2)
        first = len(self.store.run()) - 61
        self.assertEqual([early for early, late in self.store.waits() if late == first], [225, first - 3])

    def test_the_first_writing_that_is_new_enough(self):
        self.parted()
        self.do("write_back", 3)
        self.do("sync")
        self.put({("m",): None})
        self.do("sync")
        self.do("write_back", 3)
        self.do("sync")
        self.do("write_back", 2)
        first = len(self.store.run()) - 61
        run = self.store.run()
        self.assertEqual([early for early, late in self.store.waits() if late == first], [79, 99, run.index(("write", 183)) + 60])

    def test_none_where_it_stood_at_first(self):
        self.parted()
        self.do("write_back", 3)
        self.do("fall", self.store.disc().newest())
        self.do("wake")
        self.assertEqual(self.store.stamps_standing(), {0: 0, 1: 0, 2: 0, 3: 5})
        self.do("write_back", 2)
        self.do("sync")
        self.assertEqual(self.store.waits(), [])
        self.put({("m",): (1,)})
        self.do("sync")
        self.do("write_back", 3)
        self.assertEqual(len(self.store.waits()), 2)

    def test_a_mended_page_that_is_written_back_behind(self):
        for cells in [[0], [5], [0, 1], [60], [0, 60]]:
            self.start(3, 6)
            self.put({ANN: (1,)})
            self.do("sync")
            old = self.store.disc().standing()
            self.do("write_back", 2)
            new = self.store.disc().newest()
            for cell in cells:
                old[122 + cell] = new[122 + cell]
            self.do("fall", old)
            self.do("wake")
            self.do("mend", 2)
            self.assertEqual(self.store.run(), [("write", 122 + cell) for cell in cells])
            self.do("sync")
            self.do("write_back", 2)
            first = len(cells) + 2
            self.assertEqual(self.store.waits(), [(len(cells) - 1, first + 1 if cells == [0] else first)])

    def test_a_place_that_is_written_again(self):
        self.start(3, 4)
        self.put({ANN: (1,)})
        self.back()
        self.do("root")
        self.do("sync")
        self.do("write_back", 0)
        self.do("sync")
        root = self.store.run().index(("write", 0)) + 60
        for at in range(2):
            self.put({BOB: (at,)})
        self.do("sync")
        self.do("write_back", 2)
        self.do("sync")
        # The last place that is free takes a root: it is the one that was given up.
        self.assertEqual((self.store.free_places(), self.do("root")), (1, 4))
        run = self.store.run()
        again = [at for at, event in enumerate(run) if event == ("write", 183)][1]
        self.assertIn((root, again), self.store.waits())
        self.assertEqual([late for early, late in self.store.waits() if early == root], [again])
        self.assertEqual(self.store.free_places(), 0)


class HouseworkTest(Day):
    def test_clearing_keeps_what_somebody_can_come_to(self):
        self.start(3, 40)
        self.do("begin", "old", "reader")
        for at in range(1, 7):
            self.put({ANN: (at,)})
            self.do("sync")
            if at == 2:
                self.do("begin", "r", "reader")
            if at == 4:
                self.do("pin", "p", 4)
        self.put({ANN: (7,)})
        self.assertEqual(self.do("clear"), [(ANN, 1), (ANN, 3), (ANN, 5)])
        self.assertEqual([commit for commit, thing in self.store.book().rows()[ANN]], [2, 4, 6, 7])
        self.assertEqual((self.do("clear"), len(self.store.run())), ([], len(self.store.run())))
        self.do("end", "r")
        self.do("unpin", "p")
        self.assertEqual(self.do("clear"), [(ANN, 2), (ANN, 4)])
        self.do("sync")
        self.assertEqual(self.do("clear"), [(ANN, 6)])

    def test_pins(self):
        self.start(3, 20)
        self.assertEqual(self.do("pin", "p", 0), None)
        self.put({ANN: (1,)})
        for odd in [1, 2, True, False, None, -1, "0"]:
            self.assertEqual(self.do("pin", "q", odd), "InvalidCommit")
        self.do("begin", "w", "writer")
        self.assertEqual((self.do("pin", "q", 1), self.store.pins()), (None, {"p": 0, "q": 1}))
        self.do("give_up", "w")
        self.assertEqual((self.do("pin", "p", 1), self.store.pins()), (None, {"p": 1, "q": 1}))
        self.do("pin", "p", 1)
        self.assertEqual((self.do("unpin", "q"), self.do("unpin", "q"), self.store.pins()), (None, "Refused", {"p": 1}))
        self.assertEqual((self.do("pin", "P", None), self.do("unpin", 1)), ("InvalidName", "InvalidName"))
        # It is pinned by itself alone.
        self.do("sync")
        self.put({ANN: (2,)})
        self.do("sync")
        self.assertIsNone(self.do("pin", "r", 1))

    def test_root_gives_up_what_stands(self):
        self.start(4, 20)
        self.put({ANN: (1,)})
        self.put({ANN: (2,)})
        self.do("sync")
        self.do("write_back", 2)
        self.put({ANN: (3,)})
        self.assertEqual(self.do("root"), "Refused")
        self.do("sync")
        self.assertEqual((self.do("root"), self.store.lines()[-1][3][3]), (2, ("begin", 3, 2, 3)))
        self.assertEqual(self.do("root"), "Refused")
        self.do("sync")
        self.do("write_back", 0)
        self.assertEqual(len(self.store.lines()), 4)
        self.do("sync")
        self.assertEqual([line[0] for line in self.store.lines()], [3, 4])
        self.assertEqual((self.store.free_places(), self.store.lines_standing()), (18, 4))


    def test_a_clearing_of_nothing_wants_no_place(self):
        self.start(3, 4)
        for at in range(3):
            self.put({("k", at): (at,)})
        self.back()
        self.do("root")
        self.assertEqual((self.store.free_places(), self.do("clear")), (0, []))

    def test_a_root_that_does_not_fit(self):
        self.start(3, 40)
        for last in "abcdefghi":
            self.assertIsNone(self.do("pin", "abcdefg" + last, 0))
        self.assertEqual(self.do("pin", "abcdefgj", 0), "Full")
        self.assertIsNone(self.do("pin", "a", 0))
        self.assertEqual(len(self.plain.text(0)), 3 + 108)
        self.back()
        self.assertEqual(self.do("root"), "Full")
        self.do("unpin", "a")
        self.assertEqual((self.do("root"), self.store.shelf()[0][:3]), (10, (11, 10, 0)))

    def test_wakes_of_a_new_store_and_behind_a_root(self):
        self.start(3, 5)
        for at in range(7):
            self.do("fall", self.store.disc().standing())
            self.assertEqual(self.do("wake"), at)
            self.assertEqual(self.put({ANN: (at,)}), ("committed", at + 1))
            self.back()
            self.do("root")
            self.back()
        self.assertEqual(self.store.book().rows()[ANN][-1], (7, (6,)))

    def test_a_stamp_that_is_the_first_line_s(self):
        self.start(4, 20)
        self.put({("m",): LONG})
        self.back()
        self.put({("a",): LONG})
        self.do("sync")
        self.assertEqual((self.do("root"), self.store.why_not_write(2)), (1, [("wait", 3, 2)]))
        self.do("sync")
        self.do("write_back", 0)
        self.do("sync")
        self.do("write_back", 3)
        self.do("sync")
        self.assertEqual((self.store.lines()[0][0], self.store.stamps_standing()[3], self.store.why_not_write(2)), (2, 2, []))


class FallenTest(Day):
    def begun(self):
        self.start(3, 6)
        self.put({ANN: (1,), BOB: ()})
        self.do("sync")
        self.do("begin", "w", "writer")
        self.do("put", "w", ANN, (2,))

    def test_the_power_lost_behind_every_step(self):
        deeds = [("end", "w"), ("sync",), ("write_back", 2), ("sync",), ("root",), ("pin", "p", 2), ("sync",), ("write_back", 0), ("sync",), ("clear",), ("unpin", "p"), ("sync",)]
        steps = [20, 1, 61, 1, 20, 20, 1, 61, 1, 20, 20, 1]
        for many in range(sum(steps) + 2):
            if many % 3 and many not in [20, 21, 82, 83, 104, 185, 227]:
                continue
            self.begun()
            self.do("cut", many)
            told = []
            for deed in deeds:
                told.append(self.do(*deed))
                if told[-1] == "Fallen":
                    break
            ahead = [sum(steps[: at + 1]) for at in range(len(steps))]
            fallen = [at for at, total in enumerate(ahead) if total > many]
            self.assertEqual(self.store.is_down(), bool(fallen))
            self.assertEqual(len(told), fallen[0] + 1 if fallen else len(steps))
            if fallen:
                error = outcome_of(self.store.newest)[0]
                self.assertEqual((error.__class__, error.value), (errors.Fallen, "newest"))
            most = 1 if "sync" not in [deed[0] for deed in deeds[: len(told) - 1]] else 2
            for number in range(3):
                with self.store.trial():
                    held = held_by_cells(self.store.disc())
                    self.store.fall([contents[number % len(contents)] for contents in held])
                    newest = self.store.wake()
                    self.assertIn(newest, [most, 2])
                    self.assertEqual(state_at(self.store.book(), newest)[ANN], (newest,))
            chance = random.Random(many)
            self.do("fall", [chance.choice(contents) for contents in held_by_cells(self.store.disc())])
            self.assertIn(self.do("wake"), [most, 2])

    def test_what_raises_while_it_is_down(self):
        self.begun()
        self.do("cut", 0)
        self.assertEqual(self.do("sync"), "Fallen")
        words = ["begin", "ask", "put", "drop", "deed", "give_up", "would_end", "looks_of", "writes_of", "turned_looks", "under_way", "held", "book", "newest", "standing",
                 "is_told", "end", "ahead", "free_places", "sync", "why_not_write", "write_back", "mend", "mixed_pages", "root", "clear", "join", "pin", "unpin", "pins", "cut",
                 "shelf", "stamps", "stamps_standing", "lines", "lines_standing", "run", "waits"]
        many = {"begin": 2, "ask": 2, "put": 3, "drop": 2, "deed": 2, "pin": 2, "give_up": 1, "would_end": 1, "looks_of": 1, "writes_of": 1, "turned_looks": 1, "is_told": 1,
                "end": 1, "ahead": 1, "why_not_write": 1, "write_back": 1, "mend": 1, "unpin": 1, "cut": 1}
        before = shape([self.store.disc(), self.store.record()])
        for word in words:
            error = outcome_of(getattr(self.store, word), *[None] * many.get(word, 0))[0]
            self.assertEqual((error.__class__, error.value), (errors.Fallen, word))
        self.assertEqual(shape([self.store.disc(), self.store.record()]), before)
        error = outcome_of(self.store.wake)[0]
        self.assertEqual((error.__class__, error.value), (errors.Refused, "wake"))
        for harms in [{0: None}, {}, None, {-1: 5}]:
            error = outcome_of(self.store.harm, harms)[0]
            self.assertIs(error.__class__, errors.Refused)
            self.assertIs(error.value, harms)
        self.assertIs(self.store.copy().is_down(), True)
        self.assertEqual(self.store.attempt(lambda store: store.is_down()), True)
        self.do("fall", self.store.disc().standing())
        self.do("fall", self.store.disc().standing())
        self.assertEqual(self.do("wake"), 1)
        error = outcome_of(self.store.wake)[0]
        self.assertEqual((error.__class__, error.value), (errors.Refused, "wake"))

    def test_a_fall_ends_a_cut_and_takes_only_pictures(self):
        self.begun()
        self.do("cut", 5)
        for odd in odd_objects() + [self.store.disc().standing()[:-1], tuple(self.store.disc().standing()), [None] * self.store.disc().cells()]:
            error = outcome_of(self.store.fall, odd)[0]
            self.assertIs(error.__class__, errors.InvalidChoice)
            self.assertIs(error.value, odd)
        for odd in [None, True, -1, "1", [1]]:
            self.assertEqual(self.do("cut", odd), "InvalidCount")
        self.do("fall", self.store.disc().standing())
        self.do("wake")
        for _ in range(7):
            self.assertEqual(self.do("sync"), 1)

    def test_nothing_pending_all_old_and_all_new(self):
        self.begun()
        self.do("end", "w")
        for picture, newest in [(self.store.disc().standing(), 1), (self.store.disc().newest(), 2)]:
            with self.store.trial():
                self.store.fall(picture)
                self.assertEqual(self.store.wake(), newest)
        self.do("sync")
        self.assertEqual(self.store.disc().pending(), [])
        self.do("fall", self.store.disc().standing())
        self.assertEqual(self.do("wake"), 2)

    def test_every_picture_of_a_small_fall(self):
        self.begun()
        self.do("end", "w")
        cells = [cell for cell, content in self.store.disc().pending()]
        old, new = self.store.disc().standing(), self.store.disc().newest()
        line = self.store.lines()[-1]
        chance = random.Random(5)
        # EVERY picture of the last cells, the others come through, some lost, or none.
        for lost in [0, 1, 2, 20]:
            for number in range(2 ** 7):
                picture = list(new)
                for at in range(7):
                    if number >> at & 1:
                        picture[cells[-1 - at]] = old[cells[-1 - at]]
                for cell in chance.sample(cells[:13], min(lost, 13)):
                    picture[cell] = old[cell]
                gone = sum(picture[cell] != new[cell] for cell in cells)
                with self.store.trial() as store:
                    store.fall(picture)
                    self.assertEqual(store.wake(), 2 if gone < 2 else 1)
                    self.assertEqual(store.lines()[-1] == line, gone < 2)

    def test_two_falls_amid_mending(self):
        self.begun()
        self.do("end", "w")
        self.do("sync")
        self.do("write_back", 2)
        chance = random.Random(7)
        for _ in range(6):
            late = self.store.copy()
            for day in range(3):
                held = held_by_cells(late.disc())
                late.fall([chance.choice(contents) for contents in held])
                self.assertEqual((late.wake(), state_at(late.book(), 2)), (2, {ANN: (2,), BOB: ()}))
                for page in late.mixed_pages():
                    late.cut(chance.randrange(60))
                    error = outcome_of(late.mend, page)[0]
                    self.assertIn(error.__class__, [errors.Fallen, None.__class__])
                    if error is not None:
                        break
            late.fall(late.disc().newest())
            late.wake()
            self.assertEqual(state_at(late.book(), 2), {ANN: (2,), BOB: ()})

    def test_a_mixed_page(self):
        self.begun()
        self.do("end", "w")
        self.do("sync")
        self.do("write_back", 2)
        old, new = self.store.disc().standing(), self.store.disc().newest()
        for cells, text in [(20, "old"), (45, "new")]:
            self.start(3, 6)
            self.put({ANN: (1,), BOB: ()})
            self.do("sync")
            self.put({ANN: (2,)})
            self.do("sync")
            self.do("write_back", 2)
            self.do("fall", new[:122] + new[122:122 + cells] + old[122 + cells:])
            self.do("wake")
            self.assertEqual(self.store.mixed_pages(), [2])
            # Both its contents are the shown and the newest one's: it may be written over, or mended.
            self.assertEqual(self.store.why_not_write(2), [] if text == "old" else [("newest",)])
            self.assertEqual(self.store.stamps_standing()[2], 0 if text == "old" else 3)
            late = self.store.copy()
            self.do("mend", 2)
            self.assertEqual(len(self.store.run()), cells if text == "old" else 61 - cells)
            self.assertEqual((self.do("mend", 2), self.store.mixed_pages()), ("Refused", [2]))
            self.assertEqual(self.store.why_not_write(2), [("unbarred",)] if text == "old" else [("newest",)])
            self.do("sync")
            self.assertEqual((self.store.mixed_pages(), self.do("mend", 2)), ([], "Refused"))
            self.put({ANN: (3,)})
            self.do("sync")
            self.do("write_back", 2)
            # A third content over both others would not be told any more.
            late.begin("w", "writer")
            late.put("w", ANN, (3,))
            late.end("w")
            late.sync()
            self.assertEqual(late.why_not_write(2), [("mixed",)])
            self.assertIs(outcome_of(late.write_back, 2)[0].__class__, errors.Refused)

    def test_a_single_cell_that_is_odd(self):
        for cell in [122, 150, 182]:
            self.begun()
            self.do("end", "w")
            self.back()
            self.do("fall", self.store.disc().standing())
            self.do("harm", {cell: (0, 5)})
            self.assertEqual((self.do("wake"), self.store.mixed_pages(), self.store.why_not_write(2)), (2, [2], [("newest",)]))
            self.put({ANN: (3,)})
            self.do("sync")
            self.assertEqual(self.store.why_not_write(2), [("mixed",)])
            self.do("mend", 2)
            self.assertEqual(self.store.run()[-1], ("write", cell))
            self.do("sync")
            self.assertEqual(self.store.why_not_write(2), [])

    def test_harms(self):
        self.begun()
        self.do("end", "w")
        self.back()
        page, line = page_cells(2), [183 + at for at in range(20)]
        self.do("fall", self.store.disc().standing())
        stood = self.store.disc().standing()
        for harms, told in [({}, 2), ({cell: (0, 5) for cell in page[:15]}, 2), ({line[3]: (9, 9)}, 2), ({page[0]: None}, [2]), ({0: None}, [0]),
                            ({cell: None for cell in [0, 61, 122]}, [0, 1, 2]), ({61: None, 122: None}, [1, 2]), ({cell: (0, 5) for cell in page}, [2]),
                            ({line[0]: None, line[1]: None}, [2]), ({cell: (0, 1) for cell in range(183, 303)}, [2]), ({61: (1, 1)}, [1])]:
            with self.store.trial() as store:
                self.assertIsNone(store.harm(harms))
                error, newest = outcome_of(store.wake)
                if type(told) is int:
                    self.assertEqual((error, newest), (None, told))
                    self.assertEqual(state_at(store.book(), 2), {ANN: (2,), BOB: ()})
                else:
                    self.assertEqual((error.__class__, error.value), (errors.Refused, told))
                    spoil(error.value)
                    # Harmed back, it wakes.
                    self.assertIs(store.is_down(), True)
                    store.harm({cell: stood[cell] for cell in harms})
                    self.assertEqual(store.wake(), 2)
        for harms, wanted, value in [(None, errors.InvalidCell, None), ([], errors.InvalidCell, []), ({True: None}, errors.InvalidCell, True), ({303: None}, errors.InvalidCell, 303),
                                     ({0: 5}, errors.InvalidContent, 5), ({0: (0, -1)}, errors.InvalidContent, (0, -1)), ({0: 5, -1: None}, errors.InvalidContent, 5)]:
            error = outcome_of(self.store.harm, harms)[0]
            self.assertEqual((error.__class__, shape(error.value)), (wanted, shape(value)))
        self.do("harm", {line[3]: None})
        self.assertEqual(self.do("wake"), 2)

    def test_texts_of_another_page_are_none_of_a_page(self):
        self.start(3, 4)
        self.do("fall", self.store.disc().standing())
        for page, text, fine in [(1, "0 1 0 0", False), (1, "0 2;a>1", False), (0, "0 2", False), (2, "0 ", True), (2, "a=1:1", False), (0, "0 1 0 0;p:0", True), (2, "", False),
                                 (0, "0 1 3 0", True), (0, "0 1 4 0", False), (1, "0 2;a>3", False)]:
            with self.store.trial() as store:
                store.harm(dict(page_writes(page, text)))
                error = outcome_of(store.wake)[0]
                self.assertEqual(None if error is None else error.value, None if fine else [page])

    def test_numbers_of_lines_never_come_again(self):
        self.start(3, 10)
        self.put({ANN: (1,)})
        self.do("sync")
        self.put({ANN: (2,)})
        new = self.store.disc().newest()
        # Half of the line came through; its number is told in the ring, though it is lost.
        picture = self.store.disc().standing()
        for cell in range(203, 213):
            picture[cell] = new[cell]
        self.do("fall", picture)
        self.assertEqual(self.do("wake"), 1)
        self.assertEqual(self.put({ANN: (3,)}), ("committed", 2))
        self.assertEqual(self.store.lines()[-1][:2], (3, 1))


class BlocksTest(Day):
    def test_blocks_within_blocks_and_errors(self):
        self.start(3, 8)
        self.put({ANN: (1,)})
        self.do("begin", "w", "writer")
        before = told_of(self.store)
        with self.store.trial() as one:
            self.assertIs(one, self.store)
            one.put("w", BOB, ())
            inner = told_of(self.store)
            with self.store.trial() as other:
                self.assertIs(other, self.store)
                other.end("w")
                other.sync()
                other.cut(1)
                other.fall(other.disc().standing())
                copied = other.copy()
            self.assertEqual(told_of(self.store), inner)
            with self.assertRaises(KeyError):
                with one.trial():
                    one.give_up("w")
                    raise KeyError("w")
            self.assertEqual(told_of(self.store), inner)
            with self.assertRaises(errors.InvalidName):
                with one.trial():
                    one.sync()
                    one.end("nobody")
            self.assertEqual(told_of(self.store), inner)
        self.assertEqual(told_of(self.store), before)
        self.assertIs(copied.is_down(), True)
        block = self.store.trial()
        self.store.sync()
        late = told_of(self.store)
        with block:
            self.store.give_up("w")
        self.assertEqual(told_of(self.store), late)

    def test_attempts(self):
        self.start(3, 8)
        result = [object()]

        def action(store):
            calls.append(store)
            store.begin("w", "writer")
            return result

        calls = []
        self.assertIs(self.store.attempt(action), result)
        self.assertEqual((calls, self.store.under_way()), ([self.store], []))
        self.assertIs(calls[0], self.store)
        self.assertIsNone(self.store.attempt(action=lambda store: store.cut(0)))
        with self.assertRaises(ZeroDivisionError):
            self.store.attempt(lambda store: (store.begin("w", "writer"), 1 // 0))
        self.assertEqual(self.store.record(), [])
        self.assertEqual(self.do("sync"), 0)

    def test_copies_go_their_own_way(self):
        self.start(3, 8)
        self.put({ANN: (1,)})
        self.do("begin", "w", "writer")
        other = self.store.copy()
        self.assertEqual(told_of(other), told_of(self.store))
        before = told_of(self.store)
        other.put("w", ANN, (2,))
        other.end("w")
        other.sync()
        other.write_back(2)
        other.pin("p", 2)
        other.cut(0)
        self.assertEqual(told_of(self.store), before)
        late = shape([other.disc(), other.record()])
        self.do("sync")
        self.do("write_back", 2)
        self.do("give_up", "w")
        self.assertEqual(shape([other.disc(), other.record()]), late)
        self.assertTrue(self.store == self.store)

    def test_new_objects(self):
        self.start(3, 8)
        self.put({ANN: (1,)})
        self.do("pin", "p", 0)
        self.do("begin", "w", "writer")
        self.do("ask", "w", ("between", (0,), ("zz",)))
        self.do("sync")
        before = told_of(self.store)
        for told in [self.store.shelf(), self.store.lines(), self.store.run(), self.store.waits(), self.store.record(), self.store.stamps(), self.store.stamps_standing(),
                     self.store.pins(), self.store.mixed_pages(), self.store.under_way(), self.store.held(), self.store.looks_of("w"), self.store.disc(), self.store.book().rows(),
                     self.store.why_not_write(2), self.store.why_not_write(1), self.store.disc().standing()]:
            spoil(told)
            self.assertEqual(told_of(self.store), before)
        picture = self.store.disc().standing()
        harms = {0: picture[0]}
        self.store.fall(picture)
        self.store.harm(harms)
        held = shape(self.store.record())
        spoil(picture)
        spoil(harms)
        self.assertEqual(shape(self.store.record()), held)
        spoil(self.store.record())
        self.assertEqual(shape(self.store.record()), held)
        self.assertEqual(self.store.wake(), 1)


class RecordTest(Day):
    def test_what_is_in_a_record(self):
        self.start(3, 6)
        for deed in [("begin", "w", "writer"), ("ask", "w", ("look", ANN)), ("put", "w", ANN, (1,)), ("drop", "w", BOB), ("deed", "w", "unmake table staff"), ("begin", "x", "reader"),
                     ("give_up", "x"), ("end", "w"), ("sync",), ("write_back", 2), ("sync",), ("root",), ("clear",), ("pin", "p", 1), ("unpin", "p")]:
            self.do(*deed)
        self.assertEqual(len(self.store.record()), 14)
        self.assertEqual(self.store.record()[:3], [("begin", "w", "writer"), ("ask", "w", ("look", ANN)), ("put", "w", ANN, (1,))])
        self.assertEqual(self.do("join"), "Refused")
        self.do("cut", 0)
        self.do("sync")
        self.do("begin", "w", "writer")
        self.do("fall", self.store.disc().newest())
        self.do("harm", {183: None})
        self.do("wake")
        self.assertEqual([deed[0] for deed in self.store.record()[14:]], ["cut", "sync", "fall", "harm", "wake"])
        self.assertEqual(self.store.record()[17], ("harm", {183: None}))
        late = replayed(Store(3, 6), self.store.record())
        self.assertEqual(told_of(late), told_of(self.store))
        both = replayed(self.store, [("begin", "z", "reader"), ("sync",)])
        self.assertEqual((both.under_way(), self.store.under_way()), (["z"], []))
        self.assertEqual(both.record(), self.store.record() + [("begin", "z", "reader"), ("sync",)])

    def test_errors(self):
        store = Store(3, 4)
        for odd in [part for part in odd_objects() if not isinstance(part, Store)]:
            error = outcome_of(replayed, odd, None)[0]
            self.assertIs(error.__class__, errors.InvalidStore)
            self.assertIs(error.value, odd)
        for odd in [part for part in odd_objects() if part != []] + [[("sync", 1)], [("sync",), ("begin", "a")], [("newest",)], [["sync"]], [("would_end", "a")], (("sync",),)]:
            error = outcome_of(replayed, store, odd)[0]
            self.assertIs(error.__class__, errors.InvalidRecord)
            self.assertIs(error.value, odd)
        bad = [("begin", "a", "writer"), ("sync",), ("end", "b"), ("sync",)]
        error = outcome_of(replayed, store, bad)[0]
        self.assertEqual((error.__class__, error.value), (errors.InvalidName, "b"))
        self.assertEqual(store.record(), [])
        fallen = [("cut", 0), ("sync",), ("sync",), ("fall", store.disc().standing()), ("wake",), ("sync",)]
        self.assertEqual([deed[0] for deed in replayed(store, fallen).record()], ["cut", "sync", "fall", "wake", "sync"])
        self.assertIs(outcome_of(replayed, store, [("wake",)])[0].__class__, errors.Refused)
        self.assertIs(outcome_of(replayed, store, [("fall", None)])[0].__class__, errors.InvalidChoice)
        self.assertIs(outcome_of(replayed, store, [("cut", None)])[0].__class__, errors.InvalidCount)


if __name__ == "__main__":
    unittest.main()
