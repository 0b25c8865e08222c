"""Promises [70] to [76]: transactions over a book, refused exactly if what they saw is otherwise at their place."""

import itertools
import random
import unittest

from tests import plaintables
from tests.plainbooks import compare, in_order, lies_between, plain_state, some_rows
from tests.support import errors, odd_objects, shape, spoil
from weavestore.clearing import cleared, may_go
from weavestore.questions import answer_of, deed_of
from weavestore.transactions import Weave, answer, is_question, laid_over
from weavestore.versions import Book, state_at

KEYS = [("on", "ann"), ("on", "bob"), ("pay", 1), ("a",)]
ON = ("many", ("on",), ("oo",))
BOTH_ON = Book({("on", "ann"): [(1, (1,))], ("on", "bob"): [(1, (1,))]}, 1)
STAFF = {"staff": ([("name", "word"), ("pay", "count")], [("pays", "pay", "alone")], [("ann", 7), ("bob", 5)])}


def plain_answer(state, question):
    """What a question tells, told by going through all keys."""
    if question[0] == "deed":
        return deed_of(state, question[1])
    if question[0] == "find":
        return answer_of(state, question[1])
    if question[0] == "look":
        return state.get(question[1])
    if question[0] == "first":
        late = [(key, state[key]) for key in in_order(state) if compare(key, question[1]) >= 0]
        return late[0] if late else None
    told = [(key, state[key]) for key in in_order(state) if lies_between(question[1], key, question[2])]
    return {"between": told, "many": len(told), "any": told != []}[question[0]]


def plain_laid(state, writes):
    late = {**state, **writes}
    return {key: late[key] for key in in_order(late) if late[key] is not None}


def all_of(weave):
    """All that the methods of a weave tell."""
    return shape(weave)


def some_question(chance):
    word = chance.choice(["look", "between", "many", "any", "first", "find"])
    if word == "find":
        return ("find", chance.choice(["count staff", "find name from staff where pay > 5", "sum pay from staff"]))
    keys = [chance.choice(KEYS + [("oo",), (0,), ("zz",)]) for _ in range(2)]
    return (word, keys[0]) if word in ("look", "first") else (word, *keys)


def some_step(chance):
    word = chance.choice(["ask", "ask", "put", "drop", "deed"])
    if word == "ask":
        return (word, some_question(chance))
    if word == "put":
        return (word, chance.choice(KEYS), (chance.randint(0, 2),))
    if word == "drop":
        return (word, chance.choice(KEYS))
    return (word, chance.choice(["put into staff ('cid', 3)", "erase from staff where pay > 5", "set pay to 9 in staff where name = 'ann'",
                                 "exchange in staff ('bob', 6)", "make table late (a word)"]))


def do(weave, name, step):
    """Does a step of a transaction, and returns what it tells."""
    if step[0] == "ask":
        return weave.ask(name, step[1])
    if step[0] == "put":
        return weave.put(name, step[1], step[2])
    if step[0] == "drop":
        return weave.drop(name, step[1])
    return weave.deed(name, step[1])


def done_over(state, steps):
    """What each look of some steps tells over a state, and the writes."""
    writes, looks = {}, []
    for step in steps:
        now = plain_laid(state, writes)
        if step[0] == "ask":
            looks.append(plain_answer(now, step[1]))
        elif step[0] == "put":
            writes[step[1]] = step[2]
        elif step[0] == "drop":
            writes[step[1]] = None
        else:
            looks.append(deed_of(now, step[1]))
            writes.update(looks[-1][1])
    return looks, {key: writes[key] for key in in_order(writes)}


def weavings(one, other):
    """ALL orders of two rows of steps."""
    for places in itertools.combinations(range(one + other), one):
        yield [0 if at in places else 1 for at in range(one + other)]


class QuestionTest(unittest.TestCase):
    def test_answers_over_states(self):
        chance = random.Random(71)
        for _ in range(600):
            state = {key: (chance.randint(0, 2),) for key in KEYS if chance.random() < 0.6}
            if chance.random() < 0.7:
                state.update(plaintables.composed(STAFF))
            question = some_question(chance)
            self.assertIs(is_question(question), True)
            self.assertEqual(shape(answer(state, question)), shape(plain_answer(state, question)))

    def test_laid_over(self):
        chance = random.Random(72)
        for _ in range(200):
            state = {key: (1,) for key in chance.sample(KEYS, chance.randint(0, 4))}
            writes = {key: chance.choice([None, (), (2,)]) for key in chance.sample(KEYS, chance.randint(0, 4))}
            before = shape([state, writes])
            self.assertEqual(shape(laid_over(state, writes)), shape(plain_laid(state, writes)))
            self.assertEqual(shape([state, writes]), before)
        self.assertEqual(laid_over({}, {}), {})

    def test_questions_as_text(self):
        state = plaintables.composed(STAFF)
        self.assertEqual(answer(state, ("find", "sum pay from staff")), ("told", 12))
        self.assertEqual(answer(state, ("find", "sum name from staff")), ("untold", "kind"))
        self.assertEqual(answer({("row", "a", 1): ()}, ("find", "count staff")), ("untold", "wrong"))
        for text in ["count staff ", "erase from staff", "count", "", None, 3, ["count staff"]]:
            self.assertIs(is_question(("find", text)), False)
            with self.assertRaises(errors.InvalidQuestion):
                answer(state, ("find", text))


class WeaveTest(unittest.TestCase):
    def test_what_a_weave_holds(self):
        weave = Weave(BOTH_ON, 0)
        self.assertEqual((weave.book() == BOTH_ON, weave.standing(), weave.newest()), (True, 0, 1))
        self.assertEqual((weave.under_way(), weave.held()), ([], []))
        self.assertEqual([weave.begin("r", "reader"), weave.begin("b", "writer"), weave.begin("a", "writer")], [0, 1, 1])
        self.assertEqual((weave.under_way(), weave.held()), (["a", "b", "r"], [0, 1]))
        self.assertIsNone(weave.give_up("r"))
        self.assertEqual((weave.under_way(), weave.held()), (["a", "b"], [1]))
        self.assertEqual((weave.looks_of("a"), weave.writes_of("a"), weave.turned_looks("a")), ([], {}, []))

    def test_looks_see_own_writes(self):
        weave = Weave(BOTH_ON, 1)
        weave.begin("a", "writer")
        self.assertEqual(weave.ask("a", ON), 2)
        self.assertIsNone(weave.drop("a", ("on", "ann")))
        self.assertIsNone(weave.put("a", ("on", "cid"), (3,)))
        self.assertEqual(weave.ask("a", ("between", ("on",), ("oo",))), [(("on", "bob"), (1,)), (("on", "cid"), (3,))])
        weave.put("a", ("on", "ann"), (4,))
        self.assertEqual(weave.ask("a", ("first", ("on",))), (("on", "ann"), (4,)))
        self.assertEqual(weave.writes_of("a"), {("on", "ann"): (4,), ("on", "cid"): (3,)})
        self.assertEqual(list(weave.writes_of("a")), [("on", "ann"), ("on", "cid")])
        self.assertEqual([look[0][0] for look in weave.looks_of("a")], ["many", "between", "first"])
        self.assertEqual(weave.would_end("a"), ("committed", 2))
        self.assertEqual(weave.end("a"), ("committed", 2))
        self.assertEqual(state_at(weave.book(), 2), {("on", "ann"): (4,), ("on", "bob"): (1,), ("on", "cid"): (3,)})
        self.assertEqual(state_at(weave.book(), 1), state_at(BOTH_ON, 1))

    def test_readers_and_writers_without_writes_are_never_refused(self):
        weave = Weave(BOTH_ON, 0)
        weave.begin("r", "reader")
        weave.begin("w", "writer")
        weave.begin("x", "writer")
        self.assertEqual((weave.ask("r", ON), weave.ask("w", ON)), (0, 2))
        weave.drop("x", ("on", "ann"))
        self.assertEqual(weave.end("x"), ("committed", 2))
        self.assertEqual((weave.turned_looks("r"), weave.turned_looks("w")), ([], [0]))
        self.assertEqual((weave.would_end("r"), weave.would_end("w")), (("ended", 0), ("ended", 1)))
        self.assertEqual(weave.ask("w", ON), 2)
        self.assertEqual((weave.end("r"), weave.end("w")), (("ended", 0), ("ended", 1)))
        self.assertEqual(weave.newest(), 2)

    def test_a_look_that_tells_otherwise_and_one_that_does_not(self):
        weave = Weave(BOTH_ON, 1)
        for name in ["a", "b", "c"]:
            weave.begin(name, "writer")
        weave.ask("b", ("look", ("on", "bob")))
        weave.ask("b", ("any", ("on",), ("oo",)))
        weave.put("b", ("pay", 1), ())
        weave.ask("c", ("look", ("on", "bob")))
        weave.drop("c", ("on", "bob"))
        weave.ask("c", ON)
        weave.ask("c", ("first", ("on",)))
        weave.put("a", ("on", "ann"), (2,))
        weave.put("a", ("on", "cid"), (2,))
        self.assertEqual(weave.end("a"), ("committed", 2))
        self.assertEqual(weave.turned_looks("b"), [])
        self.assertEqual(weave.turned_looks("c"), [1, 2])
        self.assertEqual(weave.would_end("c"), ("refused", 1, 1, 2))
        self.assertEqual(weave.end("b"), ("committed", 3))
        self.assertEqual(weave.end("c"), ("refused", 1, 1, 2))
        self.assertEqual((weave.newest(), weave.under_way()), (3, []))

    def test_looks_at_the_own_writes_of_their_moment(self):
        # What a look saw hangs on the writes ahead of it, not on those behind it.
        weave = Weave(BOTH_ON, 1)
        weave.begin("a", "writer")
        weave.begin("b", "writer")
        weave.ask("a", ("look", ("on", "ann")))
        weave.put("a", ("on", "ann"), (9,))
        weave.ask("a", ("look", ("on", "ann")))
        weave.put("b", ("on", "ann"), (7,))
        weave.end("b")
        self.assertEqual(weave.turned_looks("a"), [0])
        self.assertEqual(weave.end("a"), ("refused", 0, (1,), (7,)))
        weave.begin("a", "writer")
        weave.put("a", ("on", "ann"), (9,))
        weave.ask("a", ("look", ("on", "ann")))
        weave.begin("b", "writer")
        weave.put("b", ("on", "ann"), (8,))
        weave.end("b")
        self.assertEqual(weave.turned_looks("a"), [])
        self.assertEqual(weave.end("a"), ("committed", 4))

    def test_a_deed_is_a_look(self):
        state = plaintables.composed(STAFF)
        weave = Weave(Book({key: [(1, thing)] for key, thing in state.items()}, 1), 1)
        for name in ["a", "b", "c", "d"]:
            weave.begin(name, "writer")
        text = "set pay to 9 in staff where name = 'ann'"
        self.assertEqual(weave.deed("a", text), ("done", 1))
        writes = deed_of(state, text)[1]
        self.assertEqual(weave.looks_of("a"), [(("deed", text), (("done", 1), writes))])
        self.assertEqual(weave.writes_of("a"), writes)
        self.assertEqual(weave.ask("a", ("find", "sum pay from staff")), ("told", 14))
        self.assertEqual(weave.deed("a", "put into staff ('eve', 9)"), ("undone", "double"))
        self.assertEqual(weave.deed("b", "put into staff ('eve', 9)"), ("done", 1))
        self.assertEqual(weave.deed("c", "set pay to 9 in staff where pay = 7"), ("done", 1))
        self.assertEqual(weave.deed("d", "put into staff ('dan', 1)"), ("done", 1))
        self.assertEqual(weave.end("a"), ("committed", 2))
        self.assertEqual(weave.turned_looks("b"), [0])
        elder, newer = (("done", 1), deed_of(state, "put into staff ('eve', 9)")[1]), (("undone", "double"), {})
        self.assertEqual(weave.end("b"), ("refused", 0, elder, newer))
        self.assertEqual(weave.end("c")[0], "refused")
        self.assertEqual(weave.end("d"), ("committed", 3))
        late = state_at(weave.book(), 3)
        self.assertEqual(plaintables.reasons(late), [])
        self.assertEqual(answer(late, ("find", "sum pay from staff")), ("told", 15))

    def test_a_deed_whose_writes_alone_are_otherwise(self):
        # As many rows are set either way, but other ones.
        weave = Weave(Book({key: [(1, thing)] for key, thing in plaintables.composed(STAFF).items()}, 1), 1)
        weave.begin("a", "writer")
        weave.begin("b", "writer")
        self.assertEqual(weave.deed("a", "exchange in staff ('ann', 1)"), ("done", 1))
        self.assertEqual(weave.deed("b", "exchange in staff ('ann', 3)"), ("done", 1))
        weave.end("a")
        outcome = weave.end("b")
        self.assertEqual((outcome[:2], outcome[2][0], outcome[3][0]), (("refused", 0), ("done", 1), ("done", 1)))
        self.assertNotEqual(outcome[2][1], outcome[3][1])

    def test_a_deed_that_writes_nothing_is_no_own_write(self):
        weave = Weave(Book({}, 0), 0)
        weave.begin("a", "writer")
        self.assertEqual(weave.deed("a", "erase from staff"), ("undone", "table"))
        self.assertEqual(weave.end("a"), ("ended", 0))

    def test_drops_of_what_is_not_there_are_own_writes(self):
        weave = Weave(Book({}, 0), 0)
        weave.begin("a", "writer")
        weave.drop("a", ("a",))
        self.assertEqual(weave.end("a"), ("committed", 1))
        self.assertEqual(weave.book().rows(), {("a",): [(1, None)]})


class WeavingsTest(unittest.TestCase):
    def check_weaving(self, book, programs, order):
        """Two writers in an order: each outcome told by doing the steps over the newest state of its moment."""
        weave = Weave(book, book.newest())
        rows = [[("begin",), *program, ("end",)] for program in programs]
        at, snapshots, numbers, done, outcomes = [0, 0], [0, 0], [0, 0], [], [None, None]
        for turn in order:
            step, name = rows[turn][at[turn]], "ab"[turn]
            at[turn] += 1
            if step[0] == "begin":
                snapshots[turn] = state_at(weave.book(), weave.newest())
                numbers[turn] = weave.newest()
                self.assertEqual(weave.begin(name, "writer"), numbers[turn])
            elif step[0] != "end":
                do(weave, name, step)
            else:
                elder, writes = done_over(snapshots[turn], programs[turn])
                newest = weave.newest()
                newer, late = done_over_with(state_at(weave.book(), newest), programs[turn], snapshots[turn])
                self.assertEqual(shape([told for question, told in weave.looks_of(name)]), shape(elder))
                self.assertEqual(shape(weave.writes_of(name)), shape(writes))
                turned = [place for place, (one, two) in enumerate(zip(elder, newer)) if one != two]
                self.assertEqual(weave.turned_looks(name), turned)
                wanted = ("committed", newest + 1)
                if writes and turned:
                    wanted = ("refused", turned[0], elder[turned[0]], newer[turned[0]])
                if not writes:
                    wanted = ("ended", numbers[turn])
                before = all_of(weave)
                self.assertEqual(shape(weave.would_end(name)), shape(wanted))
                self.assertEqual(all_of(weave), before)
                outcomes[turn] = weave.end(name)
                self.assertEqual(shape(outcomes[turn]), shape(wanted))
                if outcomes[turn][0] == "committed":
                    done.append(turn)
                    self.assertEqual(weave.newest(), newest + 1)
        self.check_alone(book, programs, done, weave)
        return outcomes

    def check_alone(self, book, programs, done, weave):
        """The committed ones done alone, one after the other, lead to the same states and looks."""
        alone = Weave(book, book.newest())
        for turn in done:
            alone.begin("a", "writer")
            for step in programs[turn]:
                do(alone, "a", step)
            self.assertEqual(alone.end("a")[0], "committed")
        self.assertTrue(alone.book() == weave.book())

    def test_all_weavings_of_two_doctors(self):
        # Each goes off duty only if both are on; alone, the second one stays.
        ann = [("ask", ON), ("drop", ("on", "ann"))]
        bob = [("ask", ON), ("drop", ("on", "bob"))]
        for order in weavings(4, 4):
            outcomes = self.check_weaving(BOTH_ON, [ann, bob], order)
            kinds = sorted(outcome[0] for outcome in outcomes)
            at = [[place for place, turn in enumerate(order) if turn == each] for each in [0, 1]]
            beside = at[0][0] < at[1][3] and at[1][0] < at[0][3]
            self.assertEqual(kinds, ["committed", "refused"] if beside else ["committed", "committed"])

    def test_all_weavings_of_two_doctors_who_look_first(self):
        # Each goes off duty only if it sees two on: whatever the order, one stays.
        for order in weavings(4, 4):
            weave, at, many = Weave(BOTH_ON, 1), [0, 0], [0, 0]
            for turn in order:
                name, key = [("a", ("on", "ann")), ("b", ("on", "bob"))][turn]
                at[turn] += 1
                if at[turn] == 1:
                    weave.begin(name, "writer")
                elif at[turn] == 2:
                    many[turn] = weave.ask(name, ON)
                elif at[turn] == 3 and many[turn] > 1:
                    weave.drop(name, key)
                elif at[turn] == 4:
                    weave.end(name)
            self.assertEqual(answer(state_at(weave.book(), weave.newest()), ON), 1)

    def test_all_weavings_of_little_writers(self):
        chance = random.Random(73)
        seen = {}
        for _ in range(60):
            rows = some_rows(chance, KEYS, 3)
            if chance.random() < 0.7:
                rows.update({key: [(1, thing)] for key, thing in plaintables.composed(STAFF).items()})
            book = Book(rows, 3)
            programs = [[some_step(chance) for _ in range(chance.randint(1, 3))] for _ in range(2)]
            orders = list(weavings(len(programs[0]) + 2, len(programs[1]) + 2))
            for order in chance.sample(orders, min(len(orders), 25)):
                for outcome in self.check_weaving(book, programs, order):
                    seen[outcome[0]] = seen.get(outcome[0], 0) + 1
        self.assertTrue(all(seen.get(word, 0) > 50 for word in ["ended", "committed", "refused"]), seen)

    def test_a_writer_beside_nothing_committed_has_no_turned_looks(self):
        chance = random.Random(74)
        for _ in range(80):
            weave = Weave(Book(some_rows(chance, KEYS, 3), 3), 2)
            weave.begin("a", "writer")
            weave.begin("b", "writer")
            for _ in range(6):
                do(weave, chance.choice("ab"), some_step(chance))
                self.assertEqual((weave.turned_looks("a"), weave.turned_looks("b")), ([], []))


def done_over_with(state, steps, first):
    """What each look tells over a state, the own writes of its moment being those of the first run."""
    looks, writes = [], {}
    for step in steps:
        if step[0] == "ask":
            looks.append(plain_answer(plain_laid(state, writes), step[1]))
        elif step[0] == "put":
            writes[step[1]] = step[2]
        elif step[0] == "drop":
            writes[step[1]] = None
        else:
            looks.append(deed_of(plain_laid(state, writes), step[1]))
            writes.update(deed_of(plain_laid(first, writes), step[1])[1])
    return looks, writes


class StandingTest(unittest.TestCase):
    def weave(self):
        weave = Weave(Book({("a",): [(1, (1,)), (3, (3,)), (4, None)], ("b",): [(2, (2,))]}, 5), 1)
        weave.begin("r", "reader")
        weave.begin("w", "writer")
        return weave

    def test_a_fall_to_each_commit(self):
        for number in range(1, 6):
            weave = self.weave()
            book = weave.book()
            self.assertIsNone(weave.fall(number))
            self.assertEqual((weave.standing(), weave.newest(), weave.under_way(), weave.held()), (number, number, [], []))
            self.assertTrue(all(version[0] <= number for versions in weave.book().rows().values() for version in versions))
            for commit in range(number + 1):
                self.assertEqual(state_at(weave.book(), commit), state_at(book, commit))
            weave.begin("w", "writer")
            weave.put("w", ("z",), ())
            self.assertEqual(weave.end("w"), ("committed", number + 1))
        weave = Weave(Book({("a",): [(2, ())]}, 2), 0)
        weave.fall(0)
        self.assertEqual((weave.book().rows(), weave.newest()), ({}, 0))

    def test_standing_is_raised(self):
        weave = self.weave()
        for number in [1, 3, 3, 5]:
            self.assertIsNone(weave.stand(number))
            self.assertEqual(weave.standing(), number)
            self.assertEqual(weave.begin("new", "reader"), number)
            weave.give_up("new")
        for function in [weave.stand, weave.fall]:
            for odd in [4, 6, 0, -1, True, None, "5", (5,)]:
                before = all_of(weave)
                with self.assertRaises(errors.InvalidSnapshot) as caught:
                    function(odd)
                self.assertIs(caught.exception.value, odd)
                self.assertEqual(all_of(weave), before)

    def test_clearing_with_pins_and_snapshots_under_way(self):
        chance = random.Random(75)
        for _ in range(150):
            rows = some_rows(chance, KEYS, 6)
            book = Book(rows, 6)
            standing = chance.randint(0, 6)
            weave = Weave(book, chance.randint(0, standing))
            names = list("abcd")[: chance.randint(0, 4)]
            for name in names:
                weave.begin(name, chance.choice(["reader", "writer"]))
                if chance.random() < 0.5:
                    weave.stand(chance.randint(weave.standing(), standing))
            weave.stand(standing)
            told = {name: weave.ask(name, ("between", (0,), ("zz",))) for name in names}
            pins = sorted(chance.sample(range(7), chance.randint(0, 3)))
            held = sorted({*weave.held(), *pins})
            gone = weave.clear(pins)
            self.assertEqual(gone, may_go(book, held, standing))
            self.assertTrue(weave.book() == cleared(book, held, standing))
            self.assertEqual((weave.newest(), weave.standing(), weave.under_way()), (6, standing, names))
            for name in names:
                self.assertEqual(weave.ask(name, ("between", (0,), ("zz",))), told[name])
            for commit in held + list(range(standing, 7)):
                self.assertEqual(state_at(weave.book(), commit), plain_state(rows, commit))
            self.assertEqual(weave.clear(pins), [])

    def test_what_may_be_told(self):
        weave = self.weave()
        for number in range(7):
            self.assertIs(weave.is_told(("ended", number)), number <= 1)
            if number:
                self.assertIs(weave.is_told(("committed", number)), number <= 1)
        for one, other in itertools.product(odd_objects()[::7], repeat=2):
            self.assertIs(weave.is_told(("refused", 3, one, other)), True)
        weave.stand(5)
        self.assertIs(weave.is_told(("committed", 5)), True)
        for odd in odd_objects() + [("ended",), ("ended", -1), ("ended", True), ("ended", 1, 2), ("committed", 0), ("committed", True), ("committed", 1, 2),
                                    ("refused", 0, 1), ("refused", True, 1, 2), ("refused", -1, 1, 2), ["ended", 1], ("told", 1)]:
            if odd != ("ended", 0):
                with self.assertRaises(errors.InvalidTransaction) as caught:
                    weave.is_told(odd)
                self.assertIs(caught.exception.value, odd)


class OwnWaysTest(unittest.TestCase):
    def weave(self):
        weave = Weave(Book({key: [(1, thing)] for key, thing in {**plaintables.composed(STAFF), ("on", "ann"): (1,)}.items()}, 2), 1)
        weave.begin("w", "writer")
        weave.begin("x", "writer")
        weave.ask("w", ("between", (0,), ("zz",)))
        weave.ask("w", ("find", "find name from staff"))
        weave.deed("w", "put into staff ('cid', 1)")
        weave.put("x", ("on", "bob"), ())
        return weave

    def test_copies_go_their_own_way(self):
        weave = self.weave()
        other = weave.copy()
        self.assertEqual(all_of(other), all_of(weave))
        before = all_of(weave)
        other.ask("w", ON)
        other.put("w", ("a",), ())
        other.deed("w", "erase from staff")
        other.begin("y", "reader")
        other.stand(2)
        other.clear([])
        self.assertEqual(all_of(weave), before)
        late = all_of(other)
        weave.end("x")
        weave.drop("w", ("on", "ann"))
        weave.ask("w", ON)
        weave.fall(1)
        self.assertEqual(all_of(other), late)
        self.assertEqual(other.copy().would_end("w"), other.would_end("w"))

    def test_what_is_returned_is_new(self):
        weave = self.weave()
        before = all_of(weave)
        for told in [weave.looks_of("w"), weave.writes_of("w"), weave.under_way(), weave.held(), weave.turned_looks("w"),
                     weave.would_end("w"), weave.book().rows()]:
            spoil(told)
        self.assertEqual(all_of(weave), before)
        told = weave.ask("w", ("between", (0,), ("zz",)))
        held = weave.looks_of("w")
        spoil(told)
        self.assertEqual(weave.looks_of("w"), held)
        told = weave.ask("w", ("find", "find name from staff"))
        spoil(told)
        self.assertEqual(weave.looks_of("w")[-1][1], ("told", [("ann",), ("bob",), ("cid",)]))
        spoil(weave.looks_of("w"))
        self.assertEqual(weave.looks_of("w")[2][1][0], ("done", 1))
        self.assertEqual(len(weave.looks_of("w")[2][1][1]), 2)
        weave.end("x")
        told = weave.would_end("w")
        again = shape(told)
        spoil(told)
        self.assertEqual(shape(weave.would_end("w")), again)
        self.assertEqual(shape(weave.end("w")), again)

    def test_lists_changed_behind_a_call(self):
        pins = [0]
        weave = self.weave()
        weave.clear(pins)
        before = all_of(weave)
        pins.append(1)
        self.assertEqual(all_of(weave), before)

    def test_wrong_calls_change_nothing(self):
        weave = self.weave()
        weave.begin("r", "reader")
        before = all_of(weave)
        for function, rest, wanted, value in [
            (weave.begin, ("w", "reader"), errors.InvalidName, "w"), (weave.begin, ("W", None), errors.InvalidName, "W"),
            (weave.begin, ("new", "both"), errors.InvalidKind, "both"), (weave.ask, ("no", None), errors.InvalidName, "no"),
            (weave.ask, ("w", ("look",)), errors.InvalidQuestion, ("look",)), (weave.put, ("r", None, None), errors.InvalidKind, "r"),
            (weave.put, ("w", ("row", "a", 1), None), errors.InvalidKey, ("row", "a", 1)), (weave.put, ("w", ("a",), None), errors.InvalidThing, None),
            (weave.put, ("w", ("by",), ()), errors.InvalidKey, ("by",)), (weave.drop, ("w", ("index", 1)), errors.InvalidKey, ("index", 1)),
            (weave.drop, ("r", ("a",)), errors.InvalidKind, "r"), (weave.drop, ("no", None), errors.InvalidName, "no"),
            (weave.deed, ("r", None), errors.InvalidKind, "r"), (weave.deed, ("w", "count staff"), errors.InvalidQuestion, "count staff"),
            (weave.give_up, ("no",), errors.InvalidName, "no"), (weave.end, (None,), errors.InvalidName, None),
            (weave.would_end, ("no",), errors.InvalidName, "no"), (weave.looks_of, ("no",), errors.InvalidName, "no"),
            (weave.writes_of, ("no",), errors.InvalidName, "no"), (weave.turned_looks, ("no",), errors.InvalidName, "no"),
            (weave.clear, ([1, 0],), errors.InvalidHeld, [1, 0]), (weave.clear, ([3],), errors.InvalidHeld, [3]),
        ]:
            with self.assertRaises(wanted) as caught:
                function(*rest)
            self.assertEqual(caught.exception.value, value)
            self.assertEqual(all_of(weave), before)

    def test_plain_keys_that_look_like_table_keys(self):
        weave = self.weave()
        for key in [("tables",), (1, "row"), ("on", "table"), ("rows", "staff", 1)]:
            self.assertIsNone(weave.put("w", key, (1,)))
        self.assertEqual(weave.ask("w", ("find", "count staff")), ("told", 3))

    def test_names_may_begin_again(self):
        weave = self.weave()
        weave.give_up("w")
        self.assertEqual(weave.begin("w", "reader"), 1)
        self.assertEqual((weave.looks_of("w"), weave.writes_of("w")), ([], {}))
        weave.end("w")
        self.assertEqual(weave.begin("w", "writer"), 2)


if __name__ == "__main__":
    unittest.main()
