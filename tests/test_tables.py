"""Promises [94] to [99]: tables, indexes and rows in a state, what is right of them, and the writes of one row."""

import itertools
import random
import unittest

from tests import plaintables
from tests.plainbooks import compare, in_order
from tests.plaintables import composed, model_of, reasons, some_model, some_state
from tests.support import errors, is_in, odd_objects, outcome_of, shape, spoil
from weavestore.tables import behind, by_index, forms, is_right, is_table_key, is_why_wrong, row_writes, tables, why_wrong

STAFF = {"staff": ([("name", "word"), ("town", "word"), ("pay", "count")], [("pays", "pay", "alone"), ("towns", "town", "any")],
                   [("ann", "ulm", 7), ("bob", "bonn", 5), ("cid", "ulm", 3)])}


def bent_states(chance, many):
    """States by chance, right ones and such with something put in, taken out or changed."""
    things = [(), (1,), ("a",), ("name", "word"), ("name", "word", "name", "count"), ("name", "kind"), ("a", "ulm"), (1, 2, 3, 4),
              ("staff", "town", "any"), ("staff", "name", "any"), ("goods", "pay", "alone"), ("staff", "pay", "some"),
              ("ann", "ulm", 7), ("staff", "town", "any", 1), (1, "town", "any"), ("name", "word", "pay", "count")]
    keys = [("table", "staff"), ("table", "goods"), ("table", 3), ("table",), ("table", "staff", 1), ("index", "ia"),
            ("index", "ie"), ("index",), ("index", 3), ("row", "staff", "a"), ("row", "goods", 1), ("row", "staff"),
            ("row", 3, 3), ("row", "none", 1), ("row", "staff", "a", 1), ("by", "ia", "a", "a"), ("by", "ia", 1, 1),
            ("by", "ia", 1), ("by", 3, 3, 3), ("by", "none", "a", "a"), ("by", "ib", "ulm", "a"), ("row", 1), ("by",)]
    for _ in range(many):
        state = some_state(chance)
        for _ in range(chance.choice([0, 1, 1, 1, 2, 3])):
            what = chance.randint(0, 3)
            if what == 0 and state:
                del state[chance.choice(list(state))]
            elif what == 1 and state:
                state[chance.choice(list(state))] = chance.choice(things)
            elif what == 2:
                state[chance.choice(keys)] = chance.choice(things + list(state.values()))
            elif state:
                key = chance.choice(list(state))
                at = chance.randrange(len(key))
                other = key[:at] + (chance.choice(["a", "ulm", 1, 9, "staff", "goods"]),) + key[at + 1:]
                state[other] = state[key]
        yield state


def plain_behind(keys, key):
    """Of many keys the least that is greater than all that begin with a key."""
    fine = [each for each in keys if compare(each, key) > 0 and each[: len(key)] != key]
    return in_order(fine)[0] if fine else None


class RightTest(unittest.TestCase):
    def check(self, state):
        told = reasons(state)
        self.assertIs(is_right(state), told == [], state)
        self.assertEqual(told == [], model_of(state) is not None)
        why = why_wrong(state)
        if told == []:
            self.assertIsNone(why)
        else:
            self.assertTrue(is_in(why, told))
        keys = [key for key in state if key[0] in plaintables.WORDS]
        for reason in told:
            self.assertIs(is_why_wrong(state, reason), True)
        others = [(word, key) for key in keys for word in ["strange", "bare"]]
        others += [(word, *pair) for pair in itertools.product(keys, repeat=2) for word in ["lacking", "twice", "bare"]]
        for reason in others if len(others) < 40 else random.Random(len(others)).sample(others, 40):
            self.assertIs(is_why_wrong(state, reason), reason in told)
        if told == []:
            model = model_of(state)
            wanted = {table: (model[table][0], sorted(model[table][1])) for table in sorted(model)}
            self.assertEqual(shape(forms(state)), shape(wanted))
            rows = {table: sorted(model[table][2], key=lambda row: row[0]) for table in sorted(model)}
            self.assertEqual(shape(tables(state)), shape(rows))
        else:
            for function in [forms, tables]:
                with self.assertRaises(errors.Refused) as caught:
                    function(state)
                self.assertIs(caught.exception.value, state)

    def test_right_states(self):
        chance = random.Random(51)
        for _ in range(200):
            state = some_state(chance)
            self.assertEqual(reasons(state), [])
            self.check(state)

    def test_bent_states(self):
        seen = {}
        for state in bent_states(random.Random(52), 1300):
            self.check(state)
            for reason in reasons(state):
                seen[reason[0]] = seen.get(reason[0], 0) + 1
        self.assertTrue(all(seen.get(word, 0) > 9 for word in ["strange", "bare", "lacking", "twice"]), seen)

    def test_states_without_tables_and_tables_without_rows(self):
        for state in [{}, {("on", "ann"): (1,)}, {(3, "table"): ("row",)}, {("tables", "a"): ()}, {("ro",): ()}]:
            self.check(state)
            self.assertEqual((forms(state), tables(state)), ({}, {}))
        for columns in [[("name", "word")], [("name", "count"), ("a", "word")],
                        [("name", "word"), ("a", "word"), ("b", "count")]]:
            state = composed({"staff": (columns, [], [])})
            self.check(state)
            self.assertEqual((forms(state), tables(state)), ({"staff": (columns, [])}, {"staff": []}))
        self.check(composed(STAFF))

    def test_each_reason_alone(self):
        good = composed(STAFF)
        form = good[("table", "staff")]
        alone = [
            ({("table",): form}, ("strange", ("table",))),
            ({("table", "a", "b"): form}, ("strange", ("table", "a", "b"))),
            ({("table", 3): form}, ("strange", ("table", 3))),
            ({("table", "a"): ()}, ("strange", ("table", "a"))),
            ({("table", "a"): ("name",)}, ("strange", ("table", "a"))),
            ({("table", "a"): ("name", "words")}, ("strange", ("table", "a"))),
            ({("table", "a"): (3, "word")}, ("strange", ("table", "a"))),
            ({("table", "a"): ("name", 3)}, ("strange", ("table", "a"))),
            ({("table", "a"): ("b", "word", "b", "word")}, ("strange", ("table", "a"))),
            ({("index",): ("staff", "town", "any")}, ("strange", ("index",))),
            ({("index", "a", 1): ("staff", "town", "any")}, ("strange", ("index", "a", 1))),
            ({("index", 1): ("staff", "town", "any")}, ("strange", ("index", 1))),
            ({("index", "a"): ("staff", "town")}, ("strange", ("index", "a"))),
            ({("index", "a"): ("staff", "town", "some")}, ("strange", ("index", "a"))),
            ({("index", "a"): ("staff", 1, "any")}, ("strange", ("index", "a"))),
            ({("index", "a"): (1, "town", "any")}, ("strange", ("index", "a"))),
            ({("index", "a"): ("staff", "town", "any", 1)}, ("strange", ("index", "a"))),
            ({("index", "a"): ("staff", "name", "any")}, ("strange", ("index", "a"))),
            ({("row", "staff"): ("ann", "ulm", 7)}, ("strange", ("row", "staff"))),
            ({("row", "staff", "eve", 1): ("eve", "ulm", 8)}, ("strange", ("row", "staff", "eve", 1))),
            ({("row", 1, "eve"): ("eve",)}, ("strange", ("row", 1, "eve"))),
            ({("row", "a", "eve"): ()}, ("strange", ("row", "a", "eve"))),
            ({("row", "a", "eve"): ("eve", 1, 2, 3)}, ("strange", ("row", "a", "eve"))),
            ({("row", "a", "eve"): ("bob",)}, ("strange", ("row", "a", "eve"))),
            ({("row", "staff", "eve"): ("eve", "ulm")}, ("strange", ("row", "staff", "eve"))),
            ({("row", "staff", "eve"): ("eve", 1, 2)}, ("strange", ("row", "staff", "eve"))),
            ({("row", "staff", 1): (1, "ulm", 2)}, ("strange", ("row", "staff", 1))),
            ({("by", "towns", "ulm"): ()}, ("strange", ("by", "towns", "ulm"))),
            ({("by", 1, "ulm", "ann"): ()}, ("strange", ("by", 1, "ulm", "ann"))),
            ({("by", "a", "ulm", "ann"): (1,)}, ("strange", ("by", "a", "ulm", "ann"))),
            ({("by", "towns", 1, "ann"): ()}, ("strange", ("by", "towns", 1, "ann"))),
            ({("by", "pays", 7, 7): ()}, ("strange", ("by", "pays", 7, 7))),
            ({("index", "a"): ("staff", "gone", "any")}, ("bare", ("index", "a"))),
            ({("index", "a"): ("gone", "town", "any")}, ("bare", ("index", "a"))),
            ({("row", "gone", "eve"): ("eve", 1)}, ("bare", ("row", "gone", "eve"))),
            ({("by", "gone", "ulm", "ann"): ()}, ("bare", ("by", "gone", "ulm", "ann"))),
            ({("by", "towns", "ulm", "eve"): ()}, ("bare", ("by", "towns", "ulm", "eve"))),
            ({("by", "towns", "bonn", "ann"): ()}, ("bare", ("by", "towns", "bonn", "ann"))),
        ]
        for more, reason in alone:
            state = {**good, **more}
            self.assertEqual(reasons(state), [reason])
            self.assertEqual(why_wrong(state), reason)
            self.check(state)
        self.check({key: good[key] for key in good if key != ("by", "towns", "ulm", "ann")})
        late = {key: good[key] for key in good if key != ("by", "towns", "ulm", "ann")}
        self.assertEqual(why_wrong(late), ("lacking", ("row", "staff", "ann"), ("by", "towns", "ulm", "ann")))
        twice = {**good, ("index", "zz"): ("staff", "gone", "any"), ("index", "yy"): ("staff", "gone", "alone")}
        self.assertIs(is_why_wrong(twice, ("twice", ("index", "yy"), ("index", "zz"))), True)
        self.assertIs(is_why_wrong(twice, ("twice", ("index", "zz"), ("index", "yy"))), False)
        self.check(twice)
        # A row that has an index's table and column as its worths is no other index of it.
        like = {("index", "a"): ("goods", "b", "any"), ("row", "none", "goods"): ("goods", "b"),
                ("table", "goods"): ("x", "word", "b", "word")}
        self.assertEqual(reasons(like), [("bare", ("row", "none", "goods"))])
        self.check(like)
        self.assertIs(is_why_wrong(like, ("twice", ("index", "a"), ("row", "none", "goods"))), False)
        like = {("index", "a"): ("goods", "b", "any"), ("by", "a", "b", "c"): (), ("table", "index"): ("goods", "word", "b", "word"),
                ("table", "goods"): ("x", "word", "b", "word"), ("row", "index", "goods"): ("goods", "b")}
        self.assertEqual(reasons(like), [("bare", ("by", "a", "b", "c"))])
        self.check(like)
        self.assertIs(is_why_wrong(like, ("twice", ("index", "a"), ("row", "index", "goods"))), False)
        same = composed({"staff": (STAFF["staff"][0], STAFF["staff"][1], STAFF["staff"][2] + [("eve", "bonn", 7)])})
        self.assertEqual(why_wrong(same), ("twice", ("by", "pays", 7, "ann"), ("by", "pays", 7, "eve")))
        self.check(same)

    def test_kinds_of_reasons_that_are_none(self):
        state = {("row", "a", 1): (0,), ("by", "a", 1, 0): (1,)}
        self.assertIs(is_why_wrong(state, ("strange", ("row", "a", 1))), True)
        for odd in odd_objects() + [["strange", ("row", "a", 1)], ("strange", ("row", "a", True)), ("strange", ["row", "a", 1]),
                                    ("strange", ("row", "a", 1), None), ("strange",), ("strange", ("row", "a", 1), ()),
                                    ("strange", ("by", "a", True, False)), (None, ("row", "a", 1)), ("odd", ("row", "a", 1))]:
            self.assertIs(is_why_wrong(state, odd), False)

    def test_the_order_of_keys_means_nothing(self):
        chance = random.Random(53)
        for state in bent_states(chance, 100):
            keys = list(state)
            chance.shuffle(keys)
            other = {key: state[key] for key in keys}
            self.assertEqual(why_wrong(state), why_wrong(other))
            if is_right(state):
                self.assertEqual(shape([forms(state), tables(state)]), shape([forms(other), tables(other)]))

    def test_states_changed_between_two_calls(self):
        state = composed(STAFF)
        self.assertIs(is_right(state), True)
        del state[("by", "towns", "ulm", "ann")]
        self.assertIs(is_right(state), False)
        state[("by", "towns", "ulm", "ann")] = ()
        told = tables(state)
        spoil(told)
        self.assertEqual(tables(state), {"staff": STAFF["staff"][2]})
        told = forms(state)
        spoil(told)
        self.assertEqual(forms(state), {"staff": STAFF["staff"][:2]})


class RowWritesTest(unittest.TestCase):
    def check(self, state, table, elder, newer):
        model = model_of(state)
        error, writes = outcome_of(row_writes, state, table, elder, newer)
        columns, indexes, rows = model[table]
        names = [column for column, kind in columns]
        if elder is not None and not is_in(elder, rows):
            self.assertIs(error.__class__, errors.InvalidRow)
            self.assertIs(error.value, elder)
            return
        late = [row for row in rows if row != elder]
        wrong = newer is not None and not plaintables.is_row(newer, columns)
        wrong = wrong or newer is None and elder is None
        if not wrong and newer is not None:
            wrong = elder is not None and newer[0] != elder[0] or newer[0] in [row[0] for row in late]
            for index, column, manner in indexes:
                at = names.index(column)
                wrong = wrong or manner == "alone" and newer[at] in [row[at] for row in late]
            late = late + [newer]
        if wrong:
            self.assertIs(error.__class__, errors.InvalidRow)
            self.assertIs(error.value, newer)
            return
        wanted = {**model, table: (columns, indexes, late)}
        self.assertEqual(shape(writes), shape(plaintables.least_writes(state, wanted)))
        behind_it = {key: thing for key, thing in {**state, **writes}.items() if thing is not None}
        self.assertEqual(reasons(behind_it), [])
        self.assertEqual(tables(behind_it)[table], sorted(late, key=lambda row: row[0]))

    def test_rows_by_chance(self):
        chance = random.Random(54)
        for _ in range(400):
            state = some_state(chance)
            for table, (columns, indexes, rows) in model_of(state).items():
                choices = rows + [tuple(plaintables.some_worth(chance, kind) for name, kind in columns) for _ in range(6)]
                choices += [None, (), ("a",), ("a", 1, 1), (1, 1)]
                for _ in range(12):
                    elder = chance.choice(rows + [None] * 3 + [chance.choice(choices)])
                    newer = chance.choice(choices)
                    if elder is not None and newer and chance.random() < 0.6:
                        newer = (elder or (1,))[:1] + newer[1:]
                    self.check(state, table, elder, newer)

    def test_what_stays_is_not_written(self):
        state = composed(STAFF)
        row = ("ann", "ulm", 7)
        self.assertEqual(row_writes(state, "staff", row, row), {})
        self.assertEqual(row_writes(state, "staff", row, ("ann", "ulm", 9)), {
            ("by", "pays", 7, "ann"): None, ("by", "pays", 9, "ann"): (), ("row", "staff", "ann"): ("ann", "ulm", 9)})
        self.assertEqual(list(row_writes(state, "staff", row, None)), [
            ("by", "pays", 7, "ann"), ("by", "towns", "ulm", "ann"), ("row", "staff", "ann")])

    def test_rows_that_are_none(self):
        state = composed(STAFF)
        row = ("ann", "ulm", 7)
        for odd in odd_objects() + [["ann", "ulm", 7], ("ann", "ulm"), ("ann", "ulm", 8), ("ann", "ulm", True), ("eve", "ulm", 1),
                                    ("ann", "ulm", 1000000), ("ann", "ulm", "7"), ("Ann", "ulm", 7), ("ann", "ulm", 7, 1)]:
            self.check(state, "staff", odd, row)
            self.check(state, "staff", row, odd)
            self.check(state, "staff", None, odd)
        for newer in [("ann", "ulm", 1000000), ("ann", "abcdefghi", 1), ("ann", "ulm", -1), ("ann", "ulm", 5)]:
            with self.assertRaises(errors.InvalidRow) as caught:
                row_writes(state, "staff", row, newer)
            self.assertIs(caught.exception.value, newer)
        self.assertEqual(row_writes(state, "staff", row, ("ann", "ulm", 999999))[("by", "pays", 999999, "ann")], ())

    def test_refused_ahead_of_what_hangs_on_the_tables(self):
        wrong = {("row", "staff", 1): (2,)}
        for rest in [("staff", None, None), (None, None, None), ([], [], [])]:
            with self.assertRaises(errors.Refused) as caught:
                row_writes(wrong, *rest)
            self.assertIs(caught.exception.value, wrong)
            with self.assertRaises(errors.Refused):
                by_index(wrong, *rest)
            with self.assertRaises(errors.InvalidState):
                row_writes({1: 2}, *rest)
        good = composed(STAFF)
        for odd in odd_objects() + ["gone", "towns"]:
            with self.assertRaises(errors.InvalidTable) as caught:
                row_writes(good, odd, 1, 2)
            self.assertIs(caught.exception.value, odd)


class KeysTest(unittest.TestCase):
    def test_behind_by_comparing_many_keys(self):
        parts = [0, 1, 7, 999998, 999999, "a", "aa", "ab", "b", "on", "ona", "onb", "azzzzzzz", "azzzzzzy", "abcdefgh", "abcdefgi",
                 "yzzzzzzz", "z", "zz", "zzzzzzzy", "zzzzzzzz"]
        keys = [(one,) for one in parts] + [(one, two) for one in parts for two in parts]
        keys += [(one, two, 3) for one in parts[::4] for two in parts[::3]] + [("a", "b", "c", 1), ("zzzzzzzz",) * 4]
        for key in keys:
            late = behind(key)
            bigger = [each for each in keys if compare(each, key) > 0 and each[: len(key)] != key]
            if late is None:
                self.assertEqual(bigger, [])
                continue
            for each in keys:
                if each[: len(key)] == key:
                    self.assertEqual(compare(each, late), -1)
            for each in bigger:
                self.assertLessEqual(compare(late, each), 0, (key, late, each))

    def test_the_words_of_the_document(self):
        for key, wanted in [
            (("a", 4), ("a", 5)), (("a", 999998), ("a", 999999)), (("a", 999999), ("a", "a")), ((999999,), ("a",)),
            (("a", "b"), ("a", "ba")), (("a", "abcdefgh"), ("a", "abcdefgi")), (("a", "abcdefgz"), ("a", "abcdefh")),
            (("a", "azzzzzzz"), ("a", "b")), (("a", "zzzzzzzz"), ("aa",)), ((5, "zzzzzzzz"), (6,)),
            ((999999, "zzzzzzzz"), ("a",)), (("zzzzzzzz", "zzzzzzzz"), None), (("zzzzzzzz",) * 4, None),
            (("zzzzzzzz", 999999), ("zzzzzzzz", "a")), (("a", "zzzzzzzz", "zzzzzzzz"), ("aa",)), ((0,), (1,)),
            (("zzzzzzz",), ("zzzzzzza",)), (("yzzzzzzz", "zzzzzzzz"), ("z",)),
        ]:
            self.assertEqual(shape(behind(key)), shape(wanted))

    def test_table_keys(self):
        for key, wanted in [(("table",), True), (("index", 1), True), (("row", "a", "b", "c"), True), (("by", 0), True), ((0,), False),
                            (("tables",), False), (("on", "table"), False), ((1, "row"), False), (("b",), False)]:
            self.assertIs(is_table_key(key), wanted)

    def test_rows_by_an_index(self):
        chance = random.Random(55)
        for _ in range(150):
            state = some_state(chance)
            for columns, indexes, rows in model_of(state).values():
                for index, column, manner in indexes:
                    at = [name for name, kind in columns].index(column)
                    kind = columns[at][1]
                    bounds = [None] + (["a", "aa", "b", "ulm", "zz", "zzz"] if kind == "word" else [0, 1, 2, 5, 9, 10, 999999])
                    for low, high in itertools.product(bounds, repeat=2):
                        wanted = [row for row in rows if (low is None or row[at] >= low) and (high is None or row[at] < high)]
                        wanted = sorted(wanted, key=lambda row: (row[at], row[0]))
                        self.assertEqual(by_index(state, index, low, high), wanted)

    def test_bounds_that_are_none(self):
        state = composed(STAFF)
        for odd in odd_objects() + [1000000, "abcdefghi", -1]:
            if odd is not None and not (type(odd) is int and 0 <= odd <= 999999):
                for rest in [(odd, 5), (odd, "x"), (5, odd), (None, odd)]:
                    with self.assertRaises(errors.InvalidRow) as caught:
                        by_index(state, "pays", *rest)
                    self.assertIs(caught.exception.value, odd)
            with self.assertRaises(errors.InvalidTable) as caught:
                by_index(state, odd, 1, "x")
            self.assertIs(caught.exception.value, odd)
        for rest in [(3, None), (None, 3), ("a", 3)]:
            with self.assertRaises(errors.InvalidRow):
                by_index(state, "towns", *rest)


if __name__ == "__main__":
    unittest.main()
