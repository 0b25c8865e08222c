"""The whole program: what the head of the document guarantees, over weaves, tables, shelves, papers and the store together."""

import random
import unittest

from tests import plainshelves
from tests.plainhistories import told as plain_told
from tests.support import errors, shape
from tests.test_transactions import done_over, plain_laid
from weavestore.disc import held_by_cells
from weavestore.histories import all_rows, falls_of, is_right as is_right_history, is_row, row_of, states_of
from weavestore.papers import book_text, history_text, picture_text, read_book, read_history, read_picture
from weavestore.shelves import behind, book_in, commit_deeds, new_shelf
from weavestore.store import Store, replayed
from weavestore.tables import is_right
from weavestore.transactions import Weave
from weavestore.versions import Book, state_at
from weavestore.waits import are_waits, broken

KEYS = [("on", "ann"), ("on", "bob"), ("a",), (3, "b")]
DEEDS = ["make table staff (name word, pay count)", "make index pays on staff pay alone", "put into staff ('ann', 7)", "put into staff ('bob', 7)", "put into staff ('cid', 3)",
         "exchange in staff ('ann', 3)", "set pay to 5 in staff where name = 'bob'", "erase from staff where pay > 4", "unmake index pays", "unmake table staff",
         "make table goods (id count)", "put into goods (4)"]


def some_question(chance):
    return chance.choice([("look", chance.choice(KEYS)), ("many", ("on",), ("oo",)), ("between", (0,), ("zz",)), ("any", ("a",), ("b",)), ("first", ("b",))])


def some_step(chance, tables):
    word = chance.choice(["ask", "ask", "put", "put", "drop"] + (["deed", "deed", "deed", "find"] if tables else []))
    if word == "ask":
        return (word, some_question(chance))
    if word == "find":
        return ("ask", ("find", chance.choice(["count staff", "find name from staff where pay < 6 sorted pay", "sum id from goods"])))
    if word == "put":
        return (word, chance.choice(KEYS), chance.choice([(), (1,), ("abcdefgh",) * 3]))
    return (word, chance.choice(KEYS)) if word == "drop" else (word, chance.choice(DEEDS))


class Acts:
    """What the transactions under way did, by their names: steps and the answers that were told."""

    def __init__(self):
        self.steps = {}

    def do(self, held, name, step):
        """Does a step in a weave or a store, and keeps it with its answer."""
        if step[0] == "put":
            told = held.put(name, step[1], step[2])
        else:
            told = {"ask": held.ask, "drop": held.drop, "deed": held.deed}[step[0]](name, step[1])
        self.steps.setdefault(name, []).append((step, told))

    def take(self, name):
        """The steps of a transaction that ends."""
        return self.steps.pop(name, [])


class WeaveTest(unittest.TestCase):
    def lead(self, chance, many):
        """A day led by a weave: the events, and the shelf on which its commits were laid."""
        weave, history, shelf, newest = Weave(Book({}, 0), 0), [], new_shelf(12), 1
        for _ in range(many):
            name = chance.choice("abc")
            word = chance.choice(["step", "step", "step", "end", "end", "stand", "give up"])
            if word == "stand":
                weave.stand(weave.newest())
                history.append(("stand",))
            elif name not in weave.under_way():
                kind = chance.choice(["reader", "writer", "writer"])
                weave.begin(name, kind)
                history.append(("begin", name, kind))
            elif word == "give up":
                weave.give_up(name)
                history.append((word, name))
            elif word == "end":
                writes = weave.writes_of(name)
                outcome = weave.end(name)
                history.append(("end", name, outcome))
                if outcome[0] == "committed":
                    deeds = commit_deeds(shelf, outcome[1], writes, newest)
                    shelf, newest = behind(shelf, deeds), newest + len(deeds)
            else:
                step = some_step(chance, False)
                try:
                    if step[0] == "ask":
                        history.append(("ask", name, step[1], weave.ask(name, step[1])))
                    elif step[0] == "put":
                        weave.put(name, step[1], step[2])
                        history.append(("put", name, *step[1:]))
                    else:
                        weave.drop(name, step[1])
                        history.append(("drop", name, step[1]))
                except errors.InvalidKind:
                    pass
        return weave, history, shelf

    def test_a_day_is_a_right_history_comes_back_from_its_text_and_lies_on_a_shelf(self):
        chance = random.Random(1)
        commits = 0
        for _ in range(60):
            weave, history, shelf = self.lead(chance, 36)
            self.assertIs(is_right_history(history), True)
            self.assertEqual(shape(read_history(history_text(history))), shape(history))
            self.assertTrue(book_in(shelf, weave.newest()) == weave.book())
            self.assertTrue(read_book(book_text(weave.book())) == weave.book())
            self.assertEqual(states_of(history), [state_at(weave.book(), commit) for commit in range(weave.newest() + 1)])
            self.assertIs(is_row(history, row_of(history)), True)
            for place, number in falls_of(history)[::7]:
                late = history[:place] + [("fall", number)]
                self.assertIs(is_right_history(late), True)
                if len(row_of(late)) < 6:
                    self.assertIn(row_of(late), all_rows(late))
            commits += weave.newest()
        self.assertGreater(commits, 60)


class TablesTest(unittest.TestCase):
    def test_tables_under_weavings(self):
        chance = random.Random(2)
        seen = {}
        for _ in range(60):
            weave, acts = Weave(Book({}, 0), 0), Acts()
            for _ in range(60):
                name = chance.choice("abcd")
                if name not in weave.under_way():
                    weave.begin(name, "writer")
                elif chance.random() < 0.7:
                    acts.do(weave, name, some_step(chance, True))
                else:
                    self.check_end(weave, name, acts.take(name), seen)
        self.assertTrue(all(seen.get(word, 0) > 40 for word in ["committed", "refused", "ended"]), seen)

    def check_end(self, weave, name, steps, seen):
        """Ends a writer: refused exactly if it would have seen, or by a deed written, something else at its place."""
        newest = state_at(weave.book(), weave.newest())
        looks, writes = done_over(newest, [step for step, told in steps])
        turned = [told for question, told in weave.looks_of(name)] != looks
        wrote = weave.writes_of(name) != {}
        outcome = weave.end(name)
        seen[outcome[0]] = seen.get(outcome[0], 0) + 1
        self.assertEqual(outcome[0], "ended" if not wrote else "refused" if turned else "committed")
        if outcome[0] == "committed":
            late = state_at(weave.book(), weave.newest())
            self.assertIs(is_right(late), True)
            self.assertEqual(late, plain_laid(newest, writes))


class StoreTest(unittest.TestCase):
    def test_a_store_with_all_there_is(self):
        chance = random.Random(3)
        seen = {"committed": 0, "refused": 0, "ended": 0, "falls": 0, "amid": 0, "lost": 0}
        for _ in range(14):
            self.days(chance, seen)
        self.assertTrue(all(many > 2 for many in seen.values()), seen)

    def days(self, chance, seen):
        """Some days of a store: each commit's writer would have done the same alone, and what stood stays."""
        store, self.states, self.told = Store(8, 40), [{}], 0
        for _ in range(4):
            self.day(chance, store, seen)
            self.fall(chance, store, seen)
        late = replayed(Store(8, 40), store.record())
        self.assertEqual(shape(late), shape(store))
        picture = store.disc().standing()
        self.assertEqual(read_picture(picture_text(picture)), picture)

    def day(self, chance, store, seen):
        acts = Acts()
        if chance.random() < 0.6:
            store.cut(chance.choice([chance.randrange(200), chance.randrange(900)]))
        try:
            for _ in range(40):
                self.one(chance, store, acts, seen)
                self.check(store)
        except errors.Fallen:
            self.assertIs(store.is_down(), True)
            seen["amid"] += 1

    def one(self, chance, store, acts, seen):
        name = chance.choice("abc")
        word = chance.choice(["step"] * 6 + ["end"] * 4 + ["sync", "write", "write", "root", "clear", "join", "pin", "unpin"])
        try:
            if word in ("step", "end") and name not in store.under_way():
                store.begin(name, chance.choice(["reader", "writer", "writer", "writer"]))
                acts.take(name)
            elif word == "step":
                acts.do(store, name, some_step(chance, True))
            elif word == "end":
                self.end(store, name, acts.steps.get(name, []), seen)
                acts.take(name)
            elif word == "write":
                free = [page for page in range(8) if store.why_not_write(page) == []]
                store.write_back(chance.choice(free or [0]))
            elif word == "pin":
                store.pin(chance.choice("pq"), store.standing())
            elif word == "unpin":
                store.unpin(chance.choice("pq"))
            else:
                {"sync": store.sync, "root": store.root, "clear": store.clear, "join": store.join}[word]()
        except (errors.Refused, errors.Full, errors.InvalidKind):
            pass

    def end(self, store, name, steps, seen):
        newest, writes, snapshot = self.states[-1], store.writes_of(name), store.would_end(name)
        looks = [pair for pair in store.looks_of(name)]
        late, laid = done_over(newest, [step for step, told in steps])
        if snapshot[0] == "committed":
            # Told ahead of the steps: they may be lost amid the deed, and come through all the same.
            self.coming = plain_laid(newest, laid)
            self.assertEqual([told for question, told in looks], late)
            self.assertEqual(writes, laid)
        elif snapshot[0] == "refused":
            self.assertNotEqual([told for question, told in looks], late)
        outcome = store.end(name)
        self.assertEqual(outcome, snapshot)
        seen[outcome[0]] += 1
        if outcome[0] == "committed":
            self.states.append(self.coming)
            self.assertEqual(outcome[1], len(self.states) - 1)

    def check(self, store):
        self.told = store.standing()
        self.assertEqual(store.newest(), len(self.states) - 1)
        for commit in {*store.held(), *store.pins().values(), store.standing(), store.newest()}:
            self.assertEqual(state_at(store.book(), commit), self.states[commit])
        self.assertIs(is_right(self.states[-1]), True)
        for page, content in enumerate(store.shelf()):
            self.assertTrue(plainshelves.is_content(page, content))
        if store.run():
            self.assertTrue(are_waits(store.run(), store.waits()) and broken(store.run(), store.waits()) == [])

    def fall(self, chance, store, seen):
        """A fall to any picture, with falls amid mending."""
        for again in range(chance.randint(1, 3)):
            store.fall([chance.choice(held) for held in held_by_cells(store.disc())])
            if chance.random() < 0.3:
                store.fall(store.disc().standing())
            newest = store.wake()
            seen["falls"] += 1
            self.assertGreaterEqual(newest, self.told)
            if newest == len(self.states):
                self.states.append(self.coming)
            seen["lost"] += newest < len(self.states) - 1
            self.states = self.states[: newest + 1]
            self.check(store)
            self.assertEqual((store.under_way(), store.standing()), ([], newest))
            self.assertEqual(store.stamps() == store.stamps_standing(), all(store.why_not_write(page) == [("newest",)] for page in range(8)))
            for page in store.mixed_pages():
                if chance.random() < 0.7:
                    store.cut(chance.randrange(80))
                    try:
                        store.mend(page)
                        store.sync()
                    except errors.Fallen:
                        break
            if store.is_down():
                store.fall([chance.choice(held) for held in held_by_cells(store.disc())])
                self.assertEqual(store.wake(), newest)

    def test_a_reader_sees_one_state_whatever_is_done_meanwhile(self):
        chance = random.Random(4)
        store = Store(6, 40)
        for at in range(6):
            store.begin("w", "writer")
            store.put("w", chance.choice(KEYS), (at,))
            store.end("w")
            store.sync()
            if at == 2:
                store.begin("r", "reader")
                told = [store.ask("r", question) for question in [("between", (0,), ("zz",)), ("first", (0,))]]
                state = state_at(store.book(), 3)
            store.clear()
            for page in range(6):
                if store.why_not_write(page) == []:
                    store.write_back(page)
        self.assertEqual([store.ask("r", question) for question in [("between", (0,), ("zz",)), ("first", (0,))]], told)
        self.assertEqual(told[0], plain_told(state, ("between", (0,), ("zz",))))
        self.assertEqual(store.end("r"), ("ended", 3))


if __name__ == "__main__":
    unittest.main()
