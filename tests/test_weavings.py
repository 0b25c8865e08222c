"""Promises [83] to [87]: all that little programs can do, whatever is woven, beside trying all orders."""

import itertools
import random
import unittest

from tests.plainhistories import is_program as plain_is_program, laid, number_in, run_alone, some_question, told
from tests.support import bent, errors, is_in, odd_objects, outcome_of, shape, spoil
from weavestore.transactions import Weave
from weavestore.versions import Book, state_at
from weavestore.weavings import behind_row, done_alone, endings, is_program, is_refusing_order, most_refusals, never_refused
from weavestore.weavings import once_rows, refusing_order, rows_to, woven

ANN, BOB, ON, OO, N, M = ("on", "ann"), ("on", "bob"), ("on",), ("oo",), ("n",), ("m",)
KEYS = [ANN, BOB, N]
TWO = {ANN: (1,), BOB: (1,)}
LEAVE = [[("ask", "x", ("many", ON, OO)), ("unless", "x", 2, 1), ("drop", key)] for key in [ANN, BOB]]
UP = [("ask", "x", ("look", N)), ("put", N, (("more", "x", 1),))]
LOOK = [("ask", "x", ("look", N))]


def frozen(state):
    return tuple(sorted(state.items(), key=repr))


class Turns:
    """One order after the other, turn by turn: a weave of the test's own, by copies of all there is."""

    def __init__(self, state, programs):
        self.programs, self.state, self.number = programs, state, 0
        self.under, self.ranks, self.refused, self.ends = {}, {}, [], 0

    def copy(self):
        other = Turns(self.state, self.programs)
        other.number, other.under, other.ranks = self.number, dict(self.under), dict(self.ranks)
        other.refused, other.ends = list(self.refused), self.ends
        return other

    def turn(self, place, again=True):
        if place not in self.under:
            looks, writes, many = run_alone(self.state, self.programs[place])
            self.under[place] = (looks, writes, many, self.number)
            return
        looks, writes, left, snapshot = self.under[place]
        if left:
            self.under[place] = (looks, writes, left - 1, snapshot)
            return
        del self.under[place]
        self.ends += 1
        turned = [at for at, (question, elder, own) in enumerate(looks) if told(laid(self.state, own), question) != elder]
        if not writes:
            self.ranks[place] = (snapshot, 1, self.ends)
        elif turned:
            self.refused.append((place, turned[0]))
            if not again:
                self.ranks[place] = None
        else:
            self.number += 1
            self.state = laid(self.state, writes)
            self.ranks[place] = (self.number, 0, 0)

    def row(self):
        return sorted([place for place in self.ranks if self.ranks[place] is not None], key=lambda place: self.ranks[place])


def all_orders(state, programs, again=True):
    """ALL whole orders with what each does."""
    late = [([], Turns(state, programs))]
    while late:
        order, turns = late.pop()
        if len(turns.ranks) == len(programs):
            yield order, turns
        for place in range(len(programs)):
            if place not in turns.ranks:
                other = turns.copy()
                other.turn(place, again)
                late.append((order + [place], other))


def all_ends(state, programs, again=True):
    """What ALL whole orders lead to, like ways put together: sets of endings, refusals by programs, rows."""
    known = {}

    def onward(turns):
        if len(turns.ranks) == len(programs):
            return {(frozen(turns.state), (), tuple(turns.row()))}
        key = (frozen(turns.state), turns.number, repr(sorted(turns.ranks.items())),
               repr(sorted((place, doing[0], doing[2], doing[3]) for place, doing in turns.under.items())))
        if key not in known:
            found = set()
            for place in range(len(programs)):
                if place not in turns.ranks:
                    other = turns.copy()
                    other.refused = []
                    other.turn(place, again)
                    more = tuple(each for each, at in other.refused)
                    found |= {(end, tuple(sorted(more + rest)), row) for end, rest, row in onward(other)}
            known[key] = found
        return known[key]

    return onward(Turns(state, programs))


def some_program(chance, most):
    program = [("ask", "x", chance.choice([("look", N), ("many", ON, OO), ("between", (0,), ("zz",))]))] if most > 1 else []
    for _ in range(chance.randint(1, max(1, most - 1))):
        word = chance.choice(["ask", "ask", "put", "put", "drop", "unless"])
        if word == "ask":
            program.append((word, chance.choice("xy"), some_question(chance, KEYS + [ON])))
        elif word == "drop":
            program.append((word, chance.choice(KEYS)))
        elif word == "put":
            parts = [1, "a", ("box", "x"), ("more", "x", 1), ("more", "y", 2)]
            program.append((word, chance.choice(KEYS), tuple(chance.choice(parts) for _ in range(chance.randint(0, 2)))))
        else:
            program.append((word, chance.choice("xy"), chance.choice([None, 0, 1, 2, True, False, (1,), []]), chance.randint(1, 2)))
    if chance.random() < 0.5 and len(program) < most:
        program.append(("put", N, (("more", "x", 1),)))
    while not plain_is_program(program):
        program.append(("put", chance.choice(KEYS), (("box", "x"),)))
    return program


def thing_of(expression, boxes):
    """The thing that an expression is, by what the boxes hold."""
    parts = []
    for part in expression:
        if isinstance(part, tuple):
            part = min(999999, number_in(boxes.get(part[1])) + (part[2] if part[0] == "more" else 0))
        parts.append(part)
    return tuple(parts)


def some_state(chance):
    return {key: chance.choice([(1,), (2, "a"), ()]) for key in KEYS if chance.random() < 0.5}


class ProgramTest(unittest.TestCase):
    def test_programs_and_what_is_bent(self):
        good = [("ask", "x", ("first", ON)), ("unless", "x", (ANN, (1,)), 2), ("put", N, (1, "a", ("box", "x"), ("more", "y", 5))), ("drop", N)]
        self.assertIs(is_program(good), True)
        for other in list(bent(good)) + odd_objects():
            self.assertIs(is_program(other), plain_is_program(other), other)
        for step in [("unless", "x", None, 1), ("unless", "x", 0, 0), ("ask", "x", ("find", "count staff")), ("put", ("row", "a", 1), ()),
                     ("put", N, (1,) * 7), ("put", N, (1000000,)), ("put", N, (("box",),)), ("put", N, (("more", "x", -1),)), ("put", N, [1]),
                     ("drop", ("by",)), ("drop",), ("unless", "x", [1], 1), ("unless", "x", ("told", 1), True)]:
            self.assertIs(is_program([step]), False, step)
        for answer in [None, True, 3, (), (1, "a"), (ANN, ()), [], [(ANN, (1,)), (ANN, ())]]:
            self.assertIs(is_program([("unless", "x", answer, 1), ("drop", N)]), True)
            self.assertIs(is_program([("unless", "x", answer, 2), ("drop", N)]), False)
        self.assertIs(is_program([("put", N, (("more", "x", 10 ** 20),))]), True)
        self.assertIs(is_program([("put", N, (1,) * 6)]), True)
        self.assertIs(is_program([]), False)

    def test_done_alone(self):
        chance = random.Random(83)
        for _ in range(600):
            state, program = some_state(chance), some_program(chance, 6)
            looks, writes, many = run_alone(state, program)
            told = done_alone(state, program)
            self.assertEqual(shape(told), shape(([(question, answer) for question, answer, own in looks], writes)))
            self.assertEqual(shape(done_alone(state, program)), shape(told))
            spoil(told)
            self.assertEqual(shape(done_alone(state, program)[1]), shape(writes))

    def test_numbers_of_boxes(self):
        state = {ANN: (7, "a"), BOB: ("a", 7), ("on", "cid"): (), M: (999998,), N: (999999,)}
        asks = {("look", ANN): 7, ("look", BOB): 0, ("look", ("on", "cid")): 0, ("look", ("z",)): 0, ("many", ON, OO): 3, ("between", ON, OO): 3,
                ("any", ON, OO): 1, ("any", OO, ON): 0, ("first", ON): 7, ("first", BOB): 0, ("first", ("z",)): 0, ("look", M): 999998}
        for question, number in asks.items():
            program = [("ask", "x", question), ("put", ("o",), (("box", "x"), ("more", "x", 1), ("more", "x", 2), ("box", "y"), ("more", "y", 3)))]
            thing = (number, min(999999, number + 1), min(999999, number + 2), 0, 3)
            self.assertEqual(shape(done_alone(state, program)[1]), shape({("o",): thing}))
        late = [("put", ("o",), (("more", "x", 999999), ("more", "x", 1000000), ("more", "x", 10 ** 25)))]
        self.assertEqual(done_alone({}, late)[1], {("o",): (999999,) * 3})

    def test_leaps(self):
        put = ("put", N, (1,))
        for answer, box, leaps in [(None, None, False), (0, None, True), (True, 1, True), (1, True, True), (1, 1, False), ([], None, True)]:
            ask = ("any", N, OO) if box is True else ("many", N, OO)
            program = ([] if box is None else [("ask", "x", ask)]) + [("unless", "x", answer, 1), put]
            self.assertEqual(done_alone({N: ()}, program)[1], {} if leaps else {N: (1,)})
        # A leap may lead to another leap, and to the end.
        program = [("unless", "x", 1, 2), put, put, ("unless", "x", 1, 1), put]
        self.assertEqual(done_alone({}, program), ([], {}))
        self.assertEqual(woven({}, [program], [0, 0]), ([0], [], {}))

    def test_rows_of_programs(self):
        chance = random.Random(84)
        for _ in range(100):
            state, programs = some_state(chance), [some_program(chance, 4) for _ in range(3)]
            for many in range(4):
                for row in itertools.permutations(range(3), many):
                    late = laid(state, {})
                    for place in row:
                        late = laid(late, run_alone(late, programs[place])[1])
                    self.assertEqual(shape(behind_row(state, programs, list(row))), shape(late))
        for odd in odd_objects() + [[0, 0], [3], (0,), [True], [0, None]]:
            good = type(odd) is list and all(type(part) is int and 0 <= part < 3 for part in odd) and len(set(odd)) == len(odd)
            error, late = outcome_of(behind_row, state, programs, odd)
            self.assertIs(error.__class__, None.__class__ if good else errors.InvalidOrder)
            self.assertIs(error if good else error.value, None if good else odd)


class WovenTest(unittest.TestCase):
    def check_order(self, state, programs, order, turns):
        told = woven(state, programs, order)
        self.assertEqual(shape(told), shape((turns.row(), turns.refused, laid(turns.state, {}))))
        self.assertEqual(told[2], behind_row(state, programs, told[0]))

    def test_all_orders_of_two(self):
        chance = random.Random(85)
        seen = 0
        for _ in range(40):
            state, programs = some_state(chance), [some_program(chance, 3) for _ in range(2)]
            if chance.random() < 0.3:
                programs = [UP, chance.choice([UP, LOOK, LEAVE[0]])]
            orders = list(all_orders(state, programs))
            most = max(len(turns.refused) for order, turns in orders)
            seen += most
            for order, turns in chance.sample(orders, min(60, len(orders))):
                self.check_order(state, programs, order, turns)
                self.assertIs(is_refusing_order(state, programs, order), len(turns.refused) == most)
                for late in [order[:-1], order + [order[0]], order[1:], order + [0, 1]]:
                    self.assertIs(outcome_of(woven, state, programs, late)[0].__class__, errors.InvalidOrder)
                    self.assertIs(is_refusing_order(state, programs, late), False)
            self.assertEqual(most_refusals(state, programs), most)
            best = refusing_order(state, programs)
            self.assertEqual([len(turns.refused) for order, turns in orders if order == best], [most])
            self.assertIs(is_refusing_order(state, programs, best), True)
        self.assertGreater(seen, 10)

    def test_by_a_weave(self):
        # The same is told by a weave whose writers do the steps of the order.
        chance = random.Random(86)
        for _ in range(40):
            state, programs = some_state(chance), [some_program(chance, 4) for _ in range(3)]
            order = refusing_order(state, programs)
            weave = Weave(Book({key: [(1, thing)] for key, thing in state.items()}, 1), 1)
            doing, refused, names = {}, [], "abc"
            for place in order:
                if place not in doing:
                    weave.begin(names[place], "writer")
                    doing[place] = [0, {}]
                    continue
                at, boxes = doing[place]
                program = programs[place]
                while at < len(program) and program[at][0] == "unless":
                    at += 1 if shape(boxes.get(program[at][1])) == shape(program[at][2]) else 1 + program[at][3]
                if at == len(program):
                    outcome = weave.end(names[place])
                    del doing[place]
                    if outcome[0] == "refused":
                        refused.append((place, outcome[1]))
                    continue
                step = program[at]
                if step[0] == "ask":
                    boxes[step[1]] = weave.ask(names[place], step[2])
                elif step[0] == "drop":
                    weave.drop(names[place], step[1])
                else:
                    weave.put(names[place], step[1], thing_of(step[2], boxes))
                doing[place] = [at + 1, boxes]
            self.assertEqual(woven(state, programs, order)[1], refused)
            self.assertEqual(woven(state, programs, order)[2], state_at(weave.book(), weave.newest()))


class AllTest(unittest.TestCase):
    def check(self, state, programs):
        ends = all_ends(state, programs)
        rows = [list(row) for row in itertools.permutations(range(len(programs)))]
        told = endings(state, programs)
        by_rows = [behind_row(state, programs, row) for row in rows]
        self.assertEqual({frozen(each) for each in told}, {end for end, refused, row in ends})
        self.assertEqual(shape(told), shape([each for at, each in enumerate(by_rows) if each not in by_rows[:at]]))
        for each in told:
            self.assertEqual(rows_to(state, programs, each), [row for row, late in zip(rows, by_rows) if late == each])
        self.assertEqual({row for end, refused, row in ends} - {tuple(row) for row in rows}, set())
        most = max(len(refused) for end, refused, row in ends)
        self.assertEqual(most_refusals(state, programs), most)
        order = refusing_order(state, programs)
        self.assertEqual(len(woven(state, programs, order)[1]), most)
        self.assertIs(is_refusing_order(state, programs, order), True)
        self.assertEqual(never_refused(state, programs),
                         [place for place in range(len(programs)) if not any(place in refused for end, refused, row in ends)])
        once = all_ends(state, programs, False)
        self.assertEqual(once_rows(state, programs), [list(row) for row in sorted({row for end, refused, row in once})])
        return most

    def test_two_and_three_by_all_orders(self):
        chance = random.Random(87)
        seen = []
        for at in range(90):
            many = 2 if at % 3 else 3
            programs = [some_program(chance, 5 - many) for _ in range(many)]
            seen.append(self.check(some_state(chance), programs))
        self.assertTrue({0, 1, 2} <= set(seen), seen)

    def test_doctors_and_counts(self):
        self.assertEqual(self.check(TWO, LEAVE), 1)
        self.assertEqual(self.check(TWO, LEAVE + [LOOK]), 1)
        self.assertEqual(self.check({}, [UP, UP, UP]), 3)
        self.assertEqual(self.check({}, [UP, UP, LOOK]), 1)
        self.assertEqual(self.check({N: (1,)}, [[("put", N, (1,))], UP, [("put", N, (2,)), ("ask", "x", ("look", N))]]), 2)

    def test_programs_that_never_meet(self):
        programs = [[("ask", "x", ("look", (word,))), ("put", (word,), (("more", "x", 1),))] for word in ["a", "b", "c", "d"]]
        self.assertEqual((most_refusals({}, programs), never_refused({}, programs)), (0, [0, 1, 2, 3]))
        self.assertEqual(endings({}, programs), [{("a",): (1,), ("b",): (1,), ("c",): (1,), ("d",): (1,)}])
        self.assertEqual(len(rows_to({}, programs, endings({}, programs)[0])), 24)
        self.assertEqual(len(once_rows({}, programs)), 24)
        self.assertEqual(rows_to({}, programs, {}), [])

    def test_programs_that_all_raise_one_count(self):
        long = [("ask", "y", ("many", ON, OO))] * 4 + UP
        for many in range(1, 5):
            for program in [UP, long]:
                programs = [program] * many
                self.assertEqual(most_refusals(TWO, programs), many * (many - 1) // 2)
                order = refusing_order(TWO, programs)
                row, refused, late = woven(TWO, programs, order)
                self.assertEqual((len(refused), late[N]), (many * (many - 1) // 2, (many,)))
                self.assertEqual(never_refused(TWO, programs), [0] if many == 1 else [])

    def test_ended_ones_stand_behind_their_snapshots_by_their_ends(self):
        programs = [LOOK, LOOK, [("put", N, (1,))]]
        # Both look at nothing; the second one ends first, behind the commit.
        self.assertEqual(woven({}, programs, [0, 1, 2, 2, 2, 1, 0, 1, 0]), ([1, 0, 2], [], {N: (1,)}))
        self.assertEqual(woven({}, programs, [0, 2, 2, 2, 1, 1, 1, 0, 0]), ([0, 2, 1], [], {N: (1,)}))
        self.assertEqual(len(once_rows({}, programs)), 6)

    def test_a_writer_without_writes_is_never_refused(self):
        self.assertEqual(never_refused({}, [LOOK, UP, UP]), [0])

    def test_one_turn_too_many_and_one_too_few(self):
        for order, good in [([0, 0, 0, 0], True), ([0, 0, 0], False), ([0] * 5, False), ([], False), ([0, 0, 0, 1], False), ([0, False, 0, 0], False),
                            ((0, 0, 0, 0), False)]:
            error, told = outcome_of(woven, {}, [UP], order)
            self.assertIs(error.__class__, None.__class__ if good else errors.InvalidOrder)
            self.assertIs(is_refusing_order({}, [UP], order), good)
        for odd in odd_objects():
            self.assertIs(is_refusing_order({}, [UP], odd), is_in(odd, [[0, 0, 0, 0]]))

    def test_states_and_programs_stay_as_they_are(self):
        programs = [list(UP), list(LEAVE[0])]
        before = shape([TWO, programs])
        for function in [endings, most_refusals, refusing_order, never_refused, once_rows]:
            first = function(TWO, programs)
            again = shape(first)
            spoil(first)
            self.assertEqual(shape(function(TWO, programs)), again)
        self.assertEqual(shape([TWO, programs]), before)


if __name__ == "__main__":
    unittest.main()
