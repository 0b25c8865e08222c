"""Promises [107] to [111]: changes of rows, what an answer hangs on, and answers that are led on."""

import itertools
import random
import unittest

from tests.plaintables import composed, holds, is_row, model_of, some_model, some_test, some_worth, told, wish_parts
from tests.support import bent, errors, odd_objects, outcome_of, shape, spoil
from weavestore.hangs import Standing, changes_of, hangs, is_beside, is_parting, kept, led_on, parting_rows, told_by
from weavestore.questions import plain_answer

COLUMNS = [("name", "word"), ("town", "word"), ("pay", "count")]
STAFF = {"staff": (COLUMNS, [("pays", "pay", "alone")], [("ann", "ulm", 7), ("bob", "bonn", 5)]), "goods": ([("id", "count")], [], [(3,)])}
STATE = composed(STAFF)
LEAF = ("is", "pay", "<", 6)
FINDS = [
    ("find", ["name"], "staff", LEAF, ("pay", "down"), 2), ("find", ["town"], "staff", None, ("pay", "up"), None),
    ("find", ["pay", "name"], "staff", ("not", LEAF), None, 1), ("find", ["town"], "staff", LEAF, None, None),
]
WISHES = FINDS + [("count", "staff", LEAF), ("sum", "pay", "staff", None), ("least", "town", "staff", None), ("greatest", "pay", "staff", LEAF),
                  ("group", "town", "staff", ("not", LEAF))]


def some_wish(chance, table, columns):
    names = [column for column, kind in columns]
    counts = [column for column, kind in columns if kind == "count"]
    test = None if chance.random() < 0.4 else some_test(chance, columns, 2)
    word = chance.choice(["find", "find", "find", "count", "sum", "least", "greatest", "group"])
    if word == "count" or word == "sum" and not counts:
        return ("count", table, test)
    if word != "find":
        return (word, chance.choice(counts if word == "sum" else names), table, test)
    order = chance.choice([None, (chance.choice(names), "up"), (chance.choice(names), "down")])
    return ("find", chance.sample(names, chance.randint(1, len(names))), table, test, order, chance.choice([None, 1, 2]))


def some_row(chance, columns, key=None):
    row = tuple(some_worth(chance, kind) for name, kind in columns)
    return row if key is None else (key, *row[1:])


def some_changes(chance, model):
    """Changes by chance of rows that the tables of a model have."""
    found = []
    for table, (columns, indexes, rows) in model.items():
        worths = {row[0] for row in rows} | {some_worth(chance, columns[0][1]) for _ in range(2)}
        for worth in sorted(worths):
            elder = ([row for row in rows if row[0] == worth] or [None])[0]
            newer = None if elder is not None and chance.random() < 0.4 else some_row(chance, columns, worth)
            if chance.random() < 0.6 and elder != newer:
                found.append((table, elder, newer))
    chance.shuffle(found)
    return found


def behind(model, changes):
    """The model behind changes."""
    late = {}
    for table, (columns, indexes, rows) in model.items():
        own = [change for change in changes if change[0] == table]
        rows = [row for row in rows if row not in [change[1] for change in own]]
        late[table] = (columns, indexes, rows + [change[2] for change in own if change[2] is not None])
    return late


def plainly(model):
    """The same tables without indexes, so that their state is right whatever rows there are."""
    return {table: (columns, [], sorted(rows)) for table, (columns, indexes, rows) in model.items()}


def plain_told(columns, wish, rows):
    return told(composed({wish_parts(wish)[0]: (columns, [], rows)}), wish)


class ChangesTest(unittest.TestCase):
    def test_changes_between_states(self):
        chance = random.Random(107)
        many = 0
        for _ in range(300):
            model = plainly(some_model(chance))
            changes = some_changes(chance, model)
            one, other = composed(model), composed(plainly(behind(model, changes)))
            one[("on", "ann")] = (1,)
            found = changes_of(one, other)
            self.assertEqual(shape(found), shape(sorted(changes, key=lambda change: (change[0], (change[1] or change[2])[0]))))
            self.assertEqual(changes_of(other, one), [(table, newer, elder) for table, elder, newer in found])
            self.assertEqual(changes_of(one, one), [])
            many += len(found) > 1
        self.assertGreater(many, 50)

    def test_forms_that_are_not_the_same(self):
        others = [{}, composed({"staff": STAFF["staff"]}), composed({**STAFF, "staff": (COLUMNS, [], [])}), {**STATE, ("row", "a"): ()},
                  composed({**STAFF, "staff": (COLUMNS, [("pays", "pay", "any")], [])}), composed({**STAFF, "goods": ([("id", "word")], [], [])})]
        for other in others:
            for one, late in [(STATE, other), (other, STATE)]:
                error = outcome_of(changes_of, one, late)[0]
                self.assertIs(error.__class__, errors.Refused)
                self.assertIs(error.value, late)
        self.assertEqual(changes_of({}, {}), [])
        self.assertEqual(changes_of(STATE, composed({**STAFF, "goods": ([("id", "count")], [], [])})), [("goods", (3,), None)])


class KeptTest(unittest.TestCase):
    def test_kept_told_and_led_on(self):
        chance = random.Random(108)
        seen = {}
        for _ in range(800):
            model = some_model(chance)
            if not model:
                continue
            table = chance.choice(sorted(model))
            columns, indexes, rows = model[table]
            wish = some_wish(chance, table, columns)
            state = composed(model)
            held = kept(state, wish)
            self.assertEqual(shape(held), shape(self.plain_kept(columns, wish, rows)))
            self.assertEqual(shape(told_by(wish, held)), shape(told(state, wish)))
            changes = some_changes(chance, model)
            late = plainly(behind(model, changes))
            self.assertEqual(shape(led_on(columns, wish, held, changes)), shape(self.plain_kept(columns, wish, late[table][2])))
            newer = told(composed(late), wish)
            self.assertEqual(shape(told_by(wish, led_on(columns, wish, held, changes))), shape(newer))
            turned = newer != told(state, wish)
            self.assertIs(hangs(state, wish, changes), turned)
            seen[(wish[0], turned)] = seen.get((wish[0], turned), 0) + 1
        for word in ["find", "count", "sum", "least", "greatest", "group"]:
            self.assertTrue(all(seen.get((word, turned), 0) > 5 for turned in [True, False]), seen)

    def plain_kept(self, columns, wish, rows):
        found = []
        at = {column: place for place, (column, kind) in enumerate(columns)}
        for row in sorted(rows):
            if holds(columns, wish_parts(wish)[2], row):
                if wish[0] == "find":
                    order = None if wish[4] is None else row[at[wish[4][0]]]
                    found.append((row[0], (tuple(row[at[name]] for name in wish[1]), order)))
                else:
                    found.append((row[0], None if wish[0] == "count" else row[at[wish[1]]]))
        return found

    def test_whatever_is_held_for_a_key_worth_goes(self):
        wish = ("group", "town", "staff", None)
        held = [("ann", "ulm"), ("bob", "bonn")]
        # The elder rows of the changes are not what is held.
        changes = [("staff", ("bob", "x", 1), None), ("staff", None, ("ann", "y", 2)), ("cars", (1,), (1, 2)), ("staff", None, ("aa", "z", 0))]
        self.assertEqual(led_on(COLUMNS, wish, held, changes), [("aa", "z"), ("ann", "y")])
        self.assertEqual(led_on(COLUMNS, wish, held, []), held)
        self.assertEqual(led_on(COLUMNS, wish, [], [("goods", (3,), None)]), [])

    def test_what_is_held_by_its_form(self):
        goods = {
            "find": [[], [("a", ((1, "x"), 3))], [(1, ((1, "x"), "u")), (2, (("x", 2), "v"))]],
            "count": [[], [(1, None), (2, None)]], "sum": [[], [("a", 1), ("b", 0)]], "least": [[("a", "x"), ("b", "a")], [(1, 5)]],
        }
        wishes = {"find": ("find", ["p", "q"], "t", None, ("r", "up"), None), "count": ("count", "t", None), "sum": ("sum", "p", "t", None),
                  "least": ("least", "p", "t", None)}
        for word, rows in goods.items():
            for held in rows:
                self.assertIsNone(outcome_of(told_by, wishes[word], held)[0], held)
        bads = {
            "find": [[("a", ((1, "x"), None))], [("a", ((1,), 3))], [("a", ((1, "x"), 3)), ("b", ((1, "x"), "u"))], [("a", ([1, "x"], 3))],
                     [("a", (1, "x", 3))], [("a", None)], [("b", ((1, 1), 1)), ("a", ((1, 1), 1))], [("a", ((1, True), 1))]],
            "count": [[(1, 1)], [(1, None), (1, None)], [("a", None), (1, None)], [(True, None)], [(1,)], [1], ((1, None),), [[1, None]]],
            "sum": [[("a", "b")], [("a", None)], [("a", True)], [("a", 1000000)], [(1000000, 1)]],
            "least": [[("a", "x"), ("b", 1)], [("a", None)], [("b", 1), ("a", 2)]],
        }
        for word, rows in bads.items():
            for held in rows + [odd for odd in odd_objects() if type(odd) is not list]:
                error = outcome_of(told_by, wishes[word], held)[0]
                self.assertIs(error.__class__, errors.InvalidWrites, held)
                self.assertIs(error.value, held)
        plain = ("find", ["p", "q"], "t", None, None, None)
        self.assertEqual(told_by(plain, [("a", ((1, "x"), None)), ("b", (("x", 1), None))]), [(1, "x"), ("x", 1)])
        self.assertIs(outcome_of(told_by, plain, [("a", ((1, "x"), 3))])[0].__class__, errors.InvalidWrites)

    def test_kinds_of_the_columns_where_it_is_led_on(self):
        for wish, held in [(FINDS[0], [(1, (("a",), 1))]), (FINDS[0], [("a", ((1,), 1))]), (FINDS[0], [("a", (("a",), "b"))]), (WISHES[4], [(1, None)]),
                           (WISHES[5], [(1, 1)]), (WISHES[6], [("a", 1)]), (WISHES[7], [("a", "b")]), (WISHES[8], [("a", 1)])]:
            self.assertIsNone(outcome_of(told_by, wish, held)[0])
            error = outcome_of(led_on, COLUMNS, wish, held, None)[0]
            self.assertIs(error.__class__, errors.InvalidWrites)
            self.assertIs(error.value, held)


class HangsTest(unittest.TestCase):
    def test_refused_and_invalid_in_their_order(self):
        wish = ("count", "staff", None)
        broken = {**STATE, ("row", "strange"): ()}
        good = [("staff", ("ann", "ulm", 7), None)]
        for state, asked, changes, wanted, value in [
            (None, None, None, errors.InvalidState, 0), (STATE, None, None, errors.InvalidQuestion, 1), (STATE, ("count", "cars", None), None, errors.InvalidRow, 2),
            (broken, wish, [("staff", None, ("ann", 7))], errors.InvalidRow, 2), (broken, wish, good, errors.Refused, 0),
            (STATE, ("count", "cars", None), good, errors.Refused, 0), (STATE, wish, [("staff", ("ann", "ulm", 8), None)], errors.Refused, 0),
            (STATE, wish, [("staff", None, ("ann", "ulm", 8))], errors.Refused, 0), (STATE, wish, [("cars", None, (1,))], errors.Refused, 0),
            (STATE, wish, [("cars", (1,), None)], errors.Refused, 0), (STATE, wish, [("goods", None, ("a",))], errors.InvalidRow, 2),
            (STATE, wish, [("staff", ("cid", "ulm", 1), None)], errors.Refused, 0), (STATE, wish, good + good, errors.InvalidRow, 2),
            (STATE, wish, good + [("staff", None, ("ann", "ulm", 1))], errors.InvalidRow, 2), (STATE, wish, [("goods", (4,), None)], errors.Refused, 0),
        ]:
            error = outcome_of(hangs, state, asked, changes)[0]
            self.assertIs(error.__class__, wanted, (asked, changes))
            self.assertIs(error.value, [state, asked, changes][value])
        self.assertIs(hangs(STATE, wish, good), True)
        self.assertIs(hangs(STATE, wish, []), False)
        # Whether the state behind the changes is right is not asked: both may have one pay now.
        self.assertIs(hangs(STATE, ("sum", "pay", "staff", None), [("staff", ("ann", "ulm", 7), ("ann", "ulm", 5))]), True)
        self.assertIs(hangs(STATE, wish, [("goods", (3,), None), ("goods", None, (4,))]), False)


class BesideTest(unittest.TestCase):
    def worths(self, chance, columns):
        return [sorted({some_worth(chance, kind) for _ in range(2)} | {chance.choice([0, 999999] if kind == "count" else ["a", "zzzzzzzz", "ulma"])})
                for name, kind in columns]

    def test_beside_by_trying_all_rows_of_few_worths(self):
        chance = random.Random(110)
        seen = {}
        for _ in range(1500):
            columns = chance.choice([COLUMNS, [("pay", "count"), ("name", "word")], [("name", "word")], [("a", "word"), ("b", "count"), ("c", "count")]])
            wish = some_wish(chance, "staff", columns)
            one, other = some_row(chance, columns), some_row(chance, columns)
            change = chance.choice([(None, one), (one, None), (one, (one[0], *other[1:])), (one, (one[0], *other[1:]))])
            if chance.random() < 0.3 and len(columns) == 3:
                # Both rows give the same but for the order's worth.
                names, test = [column for column, kind in columns], chance.choice([None, None, some_test(chance, columns, 2)])
                at = chance.choice([1, 2])
                wish = ("find", chance.choice([[names[0]], [names[3 - at]], [names[0], names[3 - at]]]), "staff", test,
                        (names[at], chance.choice(["up", "down"])), chance.choice([None, 1, 2]))
                change = (one, (*one[:at], other[at], *one[at + 1:]))
            if change[0] == change[1]:
                continue
            self.check(chance, columns, wish, ("staff", *change), seen)
        for word in ["find", "count", "sum", "least", "greatest", "group"]:
            self.assertTrue(all(seen.get((word, beside), 0) > 10 for beside in [True, False]), seen)
        self.assertGreater(seen.get("two", 0), 15, seen)

    def check(self, chance, columns, wish, change, seen):
        table, elder, newer = change
        worth = (elder or newer)[0]
        rows = [row for row in itertools.product(*self.worths(chance, columns)) if row[0] != worth]
        lists = [[]] + [[row] for row in rows] + [list(pair) for pair in itertools.combinations(rows, 2) if pair[0][0] != pair[1][0]]
        parting = [others for others in lists if self.turns(columns, wish, change, others)]
        found = parting_rows(columns, wish, change)
        self.assertIs(is_beside(columns, wish, change), found is None)
        seen[(wish[0], found is None)] = seen.get((wish[0], found is None), 0) + 1
        if found is None:
            self.assertEqual(parting, [], (columns, wish, change))
        else:
            self.assertIs(is_parting(columns, wish, change, found), True)
            others = [row for row in found if row != elder]
            self.assertTrue(len(found) <= 2 and found == sorted(found) and worth not in [row[0] for row in others])
            self.assertTrue(all(is_row(row, columns) for row in found) and (elder is None or elder in found))
            self.assertTrue(self.turns(columns, wish, change, others))
            seen["two"] = seen.get("two", 0) + (len(found) == 2)
        for others in chance.sample(lists, min(12, len(lists))):
            value = sorted(others + ([] if elder is None else [elder]))
            self.assertIs(is_parting(columns, wish, change, value), len(value) <= 2 and others in parting)

    def turns(self, columns, wish, change, others):
        now, late = others + [change[1]], others + [change[2]]
        one, other = [plain_told(columns, wish, [row for row in rows if row is not None]) for rows in [now, late]]
        return one != other

    def test_the_cases_of_the_document(self):
        ann, find = ("ann", "ulm", 7), ("find", ["town"], "staff", None, ("pay", "up"), None)
        for wish, change, beside in [
            (("sum", "pay", "staff", LEAF), (("ann", "ulm", 0), ann), True), (("sum", "pay", "staff", LEAF), (None, ("ann", "ulm", 0)), True),
            (("sum", "pay", "staff", LEAF), (None, ("ann", "ulm", 1)), False), (("count", "staff", LEAF), (None, ann), True),
            (("count", "staff", None), (ann, ("ann", "bonn", 1)), True), (("group", "town", "staff", None), (ann, ("ann", "ulm", 8)), True),
            (("least", "pay", "staff", None), (ann, ("ann", "bonn", 7)), True), (("least", "pay", "staff", None), (ann, None), False),
            (find, (ann, ("ann", "ulm", 8)), False), (find, (ann, ("ann", "ulm", 7)[:2] + (9,)), False),
            (("find", ["town"], "staff", ("is", "town", "=", "ulm"), ("pay", "up"), None), (ann, ("ann", "ulm", 9)), True),
            (("find", ["name"], "staff", ("is", "town", "=", "ulm"), ("pay", "up"), None), (ann, ("ann", "ulm", 9)), False),
            # Nothing comes between two neighbours but keys behind the first one or ahead of the second one.
            (("find", ["name"], "staff", ("and", ("is", "name", "<=", "a"), ("is", "name", ">=", "a")), ("pay", "up"), 1), (("a", "x", 7), ("a", "x", 8)), True),
            (("find", ["name"], "staff", ("and", ("is", "pay", ">=", 7), ("is", "pay", "<=", 8), ("is", "name", ">=", "b"), ("is", "pay", "<", 9)), ("pay", "up"), 1),
             (("b", "x", 7), ("b", "x", 8)), False),
            (("find", ["name"], "staff", ("or", ("is", "name", "=", "b"), ("and", ("is", "name", ">", "b"), ("is", "pay", "=", 8))), ("pay", "up"), 1),
             (("b", "x", 7), ("b", "x", 8)), True),
            (("find", ["name"], "staff", ("or", ("is", "name", "=", "b"), ("and", ("is", "name", "<", "b"), ("is", "pay", "=", 8))), ("pay", "up"), 1),
             (("b", "x", 7), ("b", "x", 8)), False),
            (("find", ["name"], "staff", ("or", ("is", "name", "=", "b"), ("and", ("is", "name", "<", "b"), ("is", "pay", "=", 8))), ("pay", "down"), 1),
             (("b", "x", 7), ("b", "x", 8)), True),
        ]:
            self.assertIs(is_beside(COLUMNS, wish, ("staff", *change)), beside, (wish, change))
            self.assertIs(is_beside(COLUMNS, wish, ("staff", *change[::-1])), beside, (wish, change))

    def test_what_is_no_parting(self):
        change = ("staff", ("ann", "ulm", 7), ("ann", "ulm", 9))
        wish = ("find", ["name"], "staff", None, ("pay", "up"), None)
        good = [("ann", "ulm", 7), ("bob", "x", 8)]
        self.assertIs(is_parting(COLUMNS, wish, change, good), True)
        for odd in list(bent(good)) + odd_objects() + [good + [("cid", "x", 8)], [("ann", "ulm", 8), ("bob", "x", 8)], [("bob", "x", 8)], good[:1]]:
            told = is_parting(COLUMNS, wish, change, odd)
            self.assertIs(told, self.is_good(odd), odd)
        put = ("staff", None, ("ann", "ulm", 7))
        self.assertIs(is_parting(COLUMNS, wish, put, []), True)
        self.assertIs(is_parting(COLUMNS, wish, put, [("ann", "x", 1)]), False)
        self.assertIs(is_parting(COLUMNS, wish, put, [("aa", "x", 1), ("bob", "x", 1)]), True)

    def is_good(self, value):
        """Whether it is the elder row with one that comes between, by the order of pay 7 to 9."""
        if type(value) is not list or len(value) != 2 or not all(is_row(row, COLUMNS) for row in value):
            return False
        if ("ann", "ulm", 7) not in value or value[0][0] >= value[1][0]:
            return False
        other = [row for row in value if row != ("ann", "ulm", 7)][0]
        return (7, "ann") < (other[2], other[0]) < (9, "ann")


class StandingTest(unittest.TestCase):
    def test_answers_are_led_on(self):
        chance = random.Random(111)
        for _ in range(120):
            model = plainly(some_model(chance))
            wishes = {}
            for name in chance.sample(["a", "b", "c", "dd"], chance.randint(0, 4)):
                if model:
                    table = chance.choice(sorted(model))
                    wishes[name] = some_wish(chance, table, model[table][0])
            watch = Standing(composed(model), wishes)
            self.assertEqual(watch.turned(), [])
            looks = 0
            for _ in range(4):
                elder = {name: told(composed(model), wishes[name]) for name in sorted(wishes)}
                self.assertEqual(shape(watch.answers()), shape(elder))
                changes = some_changes(chance, model)
                self.assertIsNone(watch.lead(changes))
                model = plainly(behind(model, changes))
                newer = {name: told(composed(model), wishes[name]) for name in sorted(wishes)}
                self.assertEqual(watch.turned(), [name for name in newer if newer[name] != elder[name]])
                looks += sum(change[0] == wish_parts(wish)[0] for change in changes for wish in wishes.values())
                self.assertEqual(watch.looked_at(), looks)

    def test_wrong_ones(self):
        fits = {"a": WISHES[0]}
        for state, wishes, wanted, value in [
            (None, None, errors.InvalidState, 0), (STATE, None, errors.InvalidName, 1), (STATE, {"A": WISHES[0]}, errors.InvalidName, 1),
            (STATE, {"a": ("look", ("a",))}, errors.InvalidName, 1), (STATE, {1: WISHES[0]}, errors.InvalidName, 1), (STATE, [], errors.InvalidName, 1),
            (STATE, {"a": ("count", "cars", None)}, errors.Refused, 0), ({**STATE, ("by",): ()}, {}, errors.Refused, 0), ({}, fits, errors.Refused, 0),
            (STATE, {**fits, "b": ("sum", "town", "staff", None)}, errors.Refused, 0)]:
            error = outcome_of(Standing, state, wishes)[0]
            self.assertIs(error.__class__, wanted)
            self.assertIs(error.value, [state, wishes][value])
        watch = Standing(STATE, fits)
        watch.lead([("staff", ("bob", "bonn", 5), ("bob", "bonn", 4))])
        held = shape([watch.answers(), watch.turned(), watch.looked_at()])
        for changes, wanted in [([("staff", ("bob", "bonn", 5), None)], errors.Refused), ([("cars", None, (1,))], errors.Refused), (None, errors.InvalidRow),
                                ([("staff", None, ("bob", 1))], errors.InvalidRow), ([("goods", (3,), None), ("staff", None, ("ann", "x", 1))], errors.Refused)]:
            error = outcome_of(watch.lead, changes)[0]
            self.assertIs(error.__class__, wanted)
            self.assertIs(error.value, changes)
            self.assertEqual(shape([watch.answers(), watch.turned(), watch.looked_at()]), held)

    def test_no_wishes_and_no_changes(self):
        watch = Standing({}, {})
        self.assertEqual([watch.lead([]), watch.answers(), watch.turned(), watch.looked_at()], [None, {}, [], 0])
        watch = Standing(STATE, {"b": WISHES[4], "a": WISHES[5]})
        watch.lead([("staff", ("bob", "bonn", 5), None)])
        self.assertEqual((watch.turned(), watch.looked_at()), (["a", "b"], 2))
        watch.lead([])
        self.assertEqual((watch.turned(), watch.looked_at(), list(watch.answers())), ([], 2, ["a", "b"]))
        # The row that was put back by later changes is what the state has then.
        watch.lead([("staff", None, ("bob", "ulm", 7))])
        self.assertEqual(watch.answers(), {"a": 14, "b": 0})

    def test_it_is_equal_to_itself_alone_and_keeps_what_it_was_passed(self):
        wishes = {"a": ("find", ["name"], "staff", None, None, None)}
        state = dict(STATE)
        one, other = Standing(state, wishes), Standing(state, wishes)
        self.assertTrue(one == one and not one == other and one != other)
        wishes["a"][1].append("pay")
        wishes["b"] = ("count", "staff", None)
        state.clear()
        told = one.answers()
        self.assertEqual(told, {"a": [("ann",), ("bob",)]})
        spoil(told)
        spoil(one.turned())
        self.assertEqual((one.answers(), one.turned()), ({"a": [("ann",), ("bob",)]}, []))
        changes = [("staff", ("bob", "bonn", 5), None)]
        one.lead(changes)
        spoil(changes)
        self.assertEqual((one.answers(), one.turned()), ({"a": [("ann",)]}, ["a"]))
        self.assertEqual(other.answers(), {"a": [("ann",), ("bob",)]})

    def test_like_a_plain_answer_over_the_store(self):
        watch = Standing(STATE, {"w" + "abcdefghi"[at]: wish for at, wish in enumerate(WISHES)})
        self.assertEqual(list(watch.answers().values()), [plain_answer(STATE, wish) for wish in WISHES])
        self.assertEqual(model_of(STATE), STAFF)


if __name__ == "__main__":
    unittest.main()
