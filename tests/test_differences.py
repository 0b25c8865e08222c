"""Promises [112] to [115]: differences of snapshots, one behind the other, beside each other, merged."""

import itertools
import random
import unittest

from tests.plainbooks import compare, in_order, is_key, is_thing, plain_state, some_rows
from tests.plaintables import composed
from tests.support import bent, errors, odd_objects, outcome_of, shape, spoil
from weavestore.differences import both_of, difference, laid_over, looked_through, meets, merged, one_behind, table_changes
from weavestore.differences import turned_back
from weavestore.tables import why_wrong
from weavestore.versions import Book

KEYS = [("on", "ann"), ("a",), (1, "b")]
STAFF = ([("name", "word"), ("pay", "count")], [("pays", "pay", "alone")])


def plain_difference(one, other):
    return [(key, one.get(key), other.get(key)) for key in in_order({**one, **other}) if one.get(key) != other.get(key)]


def some_book(chance):
    return Book(some_rows(chance, KEYS, 5), 5)


def states_of(book):
    return [plain_state(book.rows(), commit) for commit in range(book.newest() + 1)]


def is_difference(value):
    if type(value) is not list:
        return False
    for part in value:
        if type(part) is not tuple or len(part) != 3 or not is_key(part[0]) or part[1] == part[2]:
            return False
        if not all(thing is None or is_thing(thing) for thing in part[1:]):
            return False
    return all(compare(one[0], other[0]) < 0 for one, other in zip(value, value[1:]))


def some_differences(chance, many):
    """All that some commits of a book by chance differ in."""
    states = states_of(some_book(chance))
    return [plain_difference(*chance.sample(states, 2)) for _ in range(many)]


class DifferenceTest(unittest.TestCase):
    def test_all_pairs_and_threes_of_commits(self):
        chance = random.Random(112)
        for _ in range(60):
            book = some_book(chance)
            rows, states = book.rows(), states_of(book)
            for one, other in itertools.product(range(6), repeat=2):
                told = difference(book, one, other)
                self.assertEqual(shape(told), shape(plain_difference(states[one], states[other])))
                self.assertEqual(shape(laid_over(states[one], told)), shape(states[other]))
                self.assertEqual(shape(turned_back(told)), shape(difference(book, other, one)))
                low, high = min(one, other), max(one, other)
                self.assertEqual(looked_through(book, one, other),
                                 [(key, commit) for key in rows for commit, thing in rows[key] if low < commit <= high])
            for one, middle, other in itertools.product(range(6), repeat=3):
                late = one_behind(difference(book, one, middle), difference(book, middle, other))
                self.assertEqual(shape(late), shape(difference(book, one, other)))

    def test_equal_commits_and_what_comes_back(self):
        book = Book({("a",): [(1, (5,)), (2, (6,)), (3, (5,))], ("b",): [(1, ()), (2, None), (3, (1,))], ("c",): [(2, None)], ("d",): [(3, ())]}, 4)
        for commit in range(5):
            self.assertEqual((difference(book, commit, commit), looked_through(book, commit, commit)), ([], []))
        self.assertEqual(difference(book, 0, 1), [(("a",), None, (5,)), (("b",), None, ())])
        self.assertEqual(difference(book, 1, 3), [(("b",), (), (1,)), (("d",), None, ())])
        self.assertEqual(looked_through(book, 1, 3), [(("a",), 2), (("a",), 3), (("b",), 2), (("b",), 3), (("c",), 2), (("d",), 3)])
        self.assertEqual(difference(book, 3, 4), [])
        self.assertEqual(difference(Book({}, 0), 0, 0), [])

    def test_commits_that_are_none(self):
        book = Book({("a",): [(1, ())]}, 2)
        for function, many in [(difference, 2), (looked_through, 2), (table_changes, 2), (merged, 3)]:
            for at in range(many):
                for odd in [3, -1, True, False, None, "1", [1]]:
                    row = [1] * many
                    row[at] = odd
                    row[at + 1:] = [None] * (many - at - 1)
                    error = outcome_of(function, book, *row)[0]
                    self.assertIs(error.__class__, errors.InvalidSnapshot)
                    self.assertIs(error.value, odd)


class LaidTest(unittest.TestCase):
    def test_differences_by_their_form(self):
        good = [((1, "b"), (1,), None), (("a",), None, ()), (("on", "ann"), ("a", 1), (2,))]
        self.assertEqual(turned_back(good), [((1, "b"), None, (1,)), (("a",), (), None), (("on", "ann"), (2,), ("a", 1))])
        for other in list(bent(good)) + odd_objects() + [good[::-1], good + good[-1:], [(("a",), None, None)], [(("a",), (1,), (1,))], [(("a",), (1,), (True,))]]:
            for function, row in [(turned_back, [other]), (laid_over, [{}, other]), (one_behind, [other, []]), (one_behind, [[], other]),
                                  (meets, [other, None]), (meets, [[], other]), (both_of, [other, None]), (both_of, [[], other])]:
                error, told = outcome_of(function, *row)
                if not is_difference(other):
                    self.assertIs(error.__class__, errors.InvalidWrites, other)
                    self.assertIs(error.value, other)
                elif row[-1] is None:
                    self.assertIs(error.__class__, errors.InvalidWrites)
                    self.assertIsNone(error.value)

    def test_laid_where_the_elder_things_are(self):
        state = {("b",): (1,), ("a",): (2,)}
        self.assertEqual(list(laid_over(state, [])), [("a",), ("b",)])
        self.assertEqual(laid_over(state, [(("a",), (2,), None), (("c",), None, ())]), {("b",): (1,), ("c",): ()})
        for bad in [[(("a",), (3,), None)], [(("a",), None, (3,))], [(("c",), (1,), None)], [(("a",), (2,), None), (("b",), (), (2,))]]:
            error = outcome_of(laid_over, state, bad)[0]
            self.assertIs(error.__class__, errors.Refused)
            self.assertIs(error.value, bad)
        self.assertIs(outcome_of(laid_over, {("a",): None}, None)[0].__class__, errors.InvalidState)

    def test_one_behind_the_other_and_both_by_any_two(self):
        chance = random.Random(113)
        seen = {}
        for _ in range(3000):
            first, second = some_differences(chance, 2) if chance.random() < 0.7 else [some_differences(chance, 1)[0], some_differences(chance, 1)[0]]
            one, other = {part[0]: part for part in first}, {part[0]: part for part in second}
            common = [key for key in in_order(one) if key in other]
            meeting = [key for key in common if one[key][2] != other[key][2]]
            self.assertEqual(meets(first, second), meeting)
            self.assertEqual(meets(second, first), meeting)
            error, told = outcome_of(one_behind, first, second)
            fits = all(one[key][2] == other[key][1] for key in common)
            seen["behind", fits] = seen.get(("behind", fits), 0) + 1
            self.judge(error, told, second, fits, lambda: self.lay_both(first, second))
            error, told = outcome_of(both_of, first, second)
            fits = not meeting and all(one[key][1] == other[key][1] for key in common)
            seen["both", fits] = seen.get(("both", fits), 0) + 1
            self.judge(error, told, second, fits, lambda: [{**one, **other}[key] for key in in_order({**one, **other})])
            if fits:
                self.assertEqual(both_of(second, first), told)
        self.assertTrue(all(many > 100 for many in seen.values()) and len(seen) == 4, seen)

    def judge(self, error, told, second, fits, wanted):
        if fits:
            self.assertIsNone(error)
            self.assertEqual(shape(told), shape(wanted()))
        else:
            self.assertIs(error.__class__, errors.Refused)
            self.assertIs(error.value, second)

    def lay_both(self, first, second):
        """What both, laid one after the other over what they want, change."""
        state = {key: elder for key, elder, newer in second if elder is not None and key not in [part[0] for part in first]}
        state.update({key: elder for key, elder, newer in first if elder is not None})
        return plain_difference(state, laid_over(laid_over(state, first), second))

    def test_alike_in_both(self):
        part = (("a",), (1,), (2,))
        self.assertEqual((meets([part], [part]), both_of([part], [part])), ([], [part]))
        error = outcome_of(both_of, [part], [(("a",), None, (2,))])[0]
        self.assertIs(error.__class__, errors.Refused)
        self.assertEqual(one_behind([part], turned_back([part])), [])
        self.assertEqual((one_behind([], []), both_of([], []), meets([], []), turned_back([])), ([], [], [], []))


class MergedTest(unittest.TestCase):
    def test_all_threes_of_commits(self):
        chance = random.Random(115)
        many = 0
        for _ in range(60):
            book = some_book(chance)
            states = states_of(book)
            for base, mine, theirs in itertools.product(range(6), repeat=3):
                first, second = difference(book, base, mine), difference(book, base, theirs)
                told = merged(book, base, mine, theirs)
                keys = meets(first, second)
                if keys:
                    self.assertEqual(told, (keys, None, None))
                else:
                    self.assertEqual(shape(told), shape(([], laid_over(states[base], both_of(first, second)), None)))
                    # So in either order.
                    self.assertEqual(merged(book, base, theirs, mine), told)
                many += keys != []
        self.assertGreater(many, 100)

    def table_book(self):
        rows = {}
        states = [composed({"staff": (*STAFF, held)}) for held in [[("ann", 1)], [("ann", 1), ("bob", 2)], [("ann", 1), ("cid", 2)], [("ann", 3), ("bob", 1)]]]
        for commit, state in enumerate(states):
            elder = states[commit - 1] if commit else {}
            for key in in_order({**elder, **state}):
                if elder.get(key) != state.get(key):
                    rows.setdefault(key, []).append((commit + 1, state.get(key)))
        return Book(rows, 4), states

    def test_tables_that_are_not_right_behind_a_merge(self):
        book, states = self.table_book()
        keys, state, reason = merged(book, 1, 2, 3)
        self.assertEqual((keys, reason), ([], ("twice", ("by", "pays", 2, "bob"), ("by", "pays", 2, "cid"))))
        self.assertEqual(reason, why_wrong(state))
        self.assertEqual(state[("row", "staff", "bob")], ("bob", 2))
        self.assertEqual(merged(book, 1, 2, 1), ([], states[1], None))
        keys, state, reason = merged(book, 1, 2, 4)
        self.assertEqual((keys, state, reason), ([("row", "staff", "bob")], None, None))

    def test_changes_of_rows(self):
        book, states = self.table_book()
        self.assertEqual(table_changes(book, 2, 4), [("staff", ("ann", 1), ("ann", 3)), ("staff", ("bob", 2), ("bob", 1))])
        self.assertEqual(table_changes(book, 3, 2), [("staff", None, ("bob", 2)), ("staff", ("cid", 2), None)])
        self.assertEqual((table_changes(book, 3, 3), table_changes(book, 0, 0)), ([], []))
        error = outcome_of(table_changes, book, 0, 1)[0]
        self.assertIs(error.__class__, errors.Refused)
        self.assertIs(error.value, book)
        wrong = Book({("row", "a"): [(1, ())]}, 1)
        error = outcome_of(table_changes, wrong, 1, 1)[0]
        self.assertIs(error.__class__, errors.Refused)
        self.assertIs(error.value, wrong)

    def test_what_is_returned_is_new(self):
        book, states = self.table_book()
        for function, row in [(difference, [book, 1, 4]), (looked_through, [book, 0, 4]), (merged, [book, 1, 2, 3]), (table_changes, [book, 1, 4]),
                              (laid_over, [{}, []]), (both_of, [difference(book, 0, 1), []])]:
            before = shape(row)
            told = function(*row)
            again = shape(told)
            spoil(told)
            self.assertEqual(shape(row), before)
            self.assertEqual(shape(function(*row)), again)


if __name__ == "__main__":
    unittest.main()
