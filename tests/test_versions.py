"""Promises [59] to [64]: words, keys, things, books, and what each commit sees."""

import itertools
import random
import unittest

from tests import plainbooks
from tests.plainbooks import compare, in_order, lies_between, plain_seen, plain_state, some_rows
from tests.support import Disc, bent, errors, odd_objects, outcome_of, shape, spoil
from weavestore.versions import Book, between, commits_of, first_from, history_of, laid, look, many_between, seen, sees
from weavestore.versions import span_of, state_at, writes_of

KEYS = [(0,), (0, "a"), (7,), (999999,), ("a",), ("a", 0), ("a", 0, 0), ("a", 0, 0, "a"), ("a", "a"), ("aa",), ("b", 1),
        ("b", "a"), ("zzzzzzzz",), ("zzzzzzzz", "zzzzzzzz", "zzzzzzzz", "zzzzzzzz")]


def books():
    """Books by chance, beside the rows and the newest commits that they are made of."""
    chance = random.Random(31)
    yield Book({}, 0), {}, 0
    yield Book({}, 4), {}, 4
    yield Book({("a",): [(2, None)]}, 3), {("a",): [(2, None)]}, 3
    for _ in range(60):
        keys = chance.sample(KEYS, chance.randint(1, 8))
        rows = some_rows(chance, keys, chance.randint(1, 7))
        newest = max([version[0] for versions in rows.values() for version in versions], default=0) + chance.randint(0, 2)
        yield Book(rows, newest), rows, newest


class BookTest(unittest.TestCase):
    def test_rows_and_newest(self):
        for book, rows, newest in books():
            self.assertEqual(shape(book.rows()), shape({key: rows[key] for key in in_order(rows)}))
            self.assertEqual(book.newest(), newest)

    def test_the_order_of_keys(self):
        self.assertEqual(in_order(KEYS), KEYS)
        chance = random.Random(1)
        for _ in range(50):
            keys = chance.sample(KEYS, 9)
            self.assertEqual(list(Book({key: [(1, ())] for key in keys}, 1).rows()), in_order(keys))

    def test_what_is_a_word_a_key_a_thing(self):
        for key in [("abcdefgh",), ("a",), (0,), (999999,), ("a", 1, "b", 2)]:
            self.assertEqual(Book({key: [(1, ())]}, 1).rows(), {key: [(1, ())]})
        for key in [(), "a", ("a", 1, "b", 2, 3), ("abcdefghi",), ("",), ("A",), ("a1",), (-1,), (1000000,), (True,),
                    (None,), (("a",),), 1, None, ("a-b",), ("a ",)]:
            rows = {key: [(1, ())]}
            with self.assertRaises(errors.InvalidBook) as caught:
                Book(rows, 1)
            self.assertIs(caught.exception.value, rows)
        for thing in [(), ("a",), (1, 2, 3, 4, 5, 6), ("abcdefgh", 999999), None]:
            self.assertEqual(Book({("k",): [(1, thing)]}, 1).rows(), {("k",): [(1, thing)]})
        for thing in [[], "a", (1, 2, 3, 4, 5, 6, 7), (True,), (None,), ((),), (1000000,), (-1,), ("A",), 0, False, {}]:
            with self.assertRaises(errors.InvalidBook):
                Book({("k",): [(1, thing)]}, 1)

    def test_rows_that_are_none(self):
        for rows in [None, [], (), {("k",): []}, {("k",): ()}, {("k",): [(0, ())]}, {("k",): [(True, ())]}, {("k",): [[1, ()]]},
                     {("k",): [(1,)]}, {("k",): [(1, (), 2)]}, {("k",): [(2, ()), (1, ())]}, {("k",): [(1, ()), (1, ())]},
                     {("k",): ((1, ()),)}, {("k",): {1: ()}}, {("k",): [(1, ())], "k": [(1, ())]}, {("k",): None}]:
            for newest in [9, None]:
                with self.assertRaises(errors.InvalidBook) as caught:
                    Book(rows, newest)
                self.assertIs(caught.exception.value, rows)
        good = {("k",): [(1, (1,)), (3, None)], (2, "a"): [(2, ())]}
        for other in list(bent(good)) + odd_objects():
            error, book = outcome_of(Book, other, 5)
            self.assertEqual(error is None or error.__class__ is errors.InvalidCommit, plainbooks.are_rows(other), other)

    def test_newest_commits_that_are_none(self):
        for newest in [2, 0, -1, True, None, "3", (3,), [3]]:
            with self.assertRaises(errors.InvalidCommit) as caught:
                Book({("k",): [(1, ()), (3, ())]}, newest)
            self.assertIs(caught.exception.value, newest)
        for newest in [False, -1, None]:
            with self.assertRaises(errors.InvalidCommit):
                Book({}, newest)
        self.assertEqual(Book({("k",): [(3, ())]}, 10**29).newest(), 10**29)

    def test_equal_books(self):
        rows = {("k",): [(1, (1,))], ("a",): [(2, None)]}
        turned = {("a",): [(2, None)], ("k",): [(1, (1,))]}
        self.assertTrue(Book(rows, 2) == Book(turned, 2))
        for other in [Book(rows, 3), Book({("k",): [(1, (1,))]}, 2), Book({**rows, ("a",): [(2, ())]}, 2), Book({}, 2),
                      Book({**rows, ("a",): [(1, None)]}, 2), rows, None, 2, (rows, 2), Disc(2)]:
            self.assertFalse(Book(rows, 2) == other)
            self.assertTrue(Book(rows, 2) != other)
            self.assertFalse(other == Book(rows, 2))
        self.assertTrue(Book({}, 0) == Book({}, 0))

    def test_books_never_change(self):
        rows = {("k",): [(1, (1,))], ("a",): [(2, None)]}
        book = Book(rows, 2)
        told = shape(book)
        rows[("k",)].append((2, ()))
        rows[("z",)] = [(1, ())]
        self.assertEqual(shape(book), told)
        held = book.rows()
        spoil(held)
        self.assertEqual(shape(book), told)
        for function, rest in [(state_at, [2]), (seen, [2]), (history_of, [("k",)]), (commits_of, []), (writes_of, [2]),
                               (between, [2, ("a",), ("z",)]), (laid, [3, {("k",): None}])]:
            first = function(book, *rest)
            held = shape(first)
            if function is laid:
                first = first.rows()
            spoil(first)
            self.assertEqual(shape(book), told)
            self.assertEqual(shape(function(book, *rest)), held)


class StatesTest(unittest.TestCase):
    def test_states_and_looks(self):
        for book, rows, newest in books():
            for commit in range(newest + 1):
                state = plain_state(rows, commit)
                self.assertEqual(shape(state_at(book, commit)), shape(state))
                for key in KEYS[::2] + [("no", "key")]:
                    self.assertEqual(shape(look(book, commit, key)), shape(state.get(key)))
                    late = [(each, state[each]) for each in state if compare(each, key) >= 0]
                    self.assertEqual(first_from(book, commit, key), late[0] if late else None)
            self.assertEqual(state_at(book, 0), {})

    def test_stretches_of_keys(self):
        for book, rows, newest in list(books())[:20]:
            state = plain_state(rows, newest)
            for low, high in itertools.product(KEYS, repeat=2):
                wanted = [(key, state[key]) for key in state if lies_between(low, key, high)]
                self.assertEqual(between(book, newest, low, high), wanted)
                self.assertEqual(many_between(book, newest, low, high), len(wanted))

    def test_an_empty_book_and_a_key_that_was_only_dropped(self):
        empty, dropped = Book({}, 3), Book({("a",): [(1, None)]}, 3)
        for commit in range(4):
            self.assertEqual(state_at(empty, commit), {})
            self.assertEqual(seen(empty, commit), [])
            self.assertEqual(state_at(dropped, commit), {})
            self.assertEqual(seen(dropped, commit), [(("a",), 1)] if commit else [])
            self.assertIsNone(look(dropped, commit, ("a",)))
            self.assertIsNone(first_from(dropped, commit, (0,)))
        self.assertEqual(commits_of(empty), [])
        self.assertEqual(history_of(empty, ("a",)), [])
        self.assertEqual(history_of(dropped, ("a",)), [(1, None)])

    def test_commits_that_are_none_of_the_book(self):
        book = Book({("a",): [(1, ())]}, 3)
        for odd in odd_objects() + [4, -1, "3"]:
            if not (type(odd) is int and 0 <= odd <= 3):
                for function, rest in [(state_at, []), (look, [None]), (between, [None, None]), (first_from, [None]),
                                       (many_between, [None, None]), (seen, []), (sees, [None, None])]:
                    with self.assertRaises(errors.InvalidSnapshot) as caught:
                        function(book, odd, *rest)
                    self.assertIs(caught.exception.value, odd)


class LaidTest(unittest.TestCase):
    def test_books_with_writes_laid(self):
        chance = random.Random(33)
        for book, rows, newest in books():
            for commit in [newest + 1, newest + 4]:
                writes = {key: chance.choice([None, (), (commit,)]) for key in chance.sample(KEYS, chance.randint(1, 4))}
                late = laid(book, commit, writes)
                self.assertEqual(late.newest(), commit)
                for elder in range(newest + 1):
                    self.assertEqual(state_at(late, elder), state_at(book, elder))
                self.assertEqual(state_at(late, commit - 1), state_at(book, newest))
                state = {**plain_state(rows, newest), **writes}
                wanted = {key: state[key] for key in in_order(state) if state[key] is not None}
                self.assertEqual(shape(state_at(late, commit)), shape(wanted))
                self.assertEqual(shape(writes_of(late, commit)), shape({key: writes[key] for key in in_order(writes)}))
                for key in KEYS:
                    more = [(commit, writes[key])] if key in writes else []
                    self.assertEqual(history_of(late, key), rows.get(key, []) + more)
                self.assertEqual(shape(book), shape(Book(rows, newest)))

    def test_wrong_commits_ahead_of_wrong_writes(self):
        book = Book({("a",): [(1, ())]}, 3)
        for odd in [3, 0, 2, -1, True, None, "4", (4,)]:
            with self.assertRaises(errors.InvalidCommit) as caught:
                laid(book, odd, None)
            self.assertIs(caught.exception.value, odd)
        for odd in odd_objects() + list(bent({("k",): (1,), ("z", 4): None})):
            if not plainbooks.are_writes(odd) or odd == {}:
                with self.assertRaises(errors.InvalidWrites) as caught:
                    laid(book, 4, odd)
                self.assertIs(caught.exception.value, odd)
            else:
                self.assertEqual(writes_of(laid(book, 4, odd), 4), odd)


class SeenTest(unittest.TestCase):
    def test_what_each_commit_sees(self):
        for book, rows, newest in books():
            for commit in range(newest + 1):
                told = plain_seen(rows, commit)
                self.assertEqual(seen(book, commit), [(key, version[0]) for key, version in told.items()])
                for key, versions in rows.items():
                    for number, thing in versions:
                        wanted = key in told and told[key][0] == number
                        self.assertIs(sees(book, commit, key, number), wanted)

    def test_spans_by_looking_at_each_commit(self):
        for book, rows, newest in books():
            for key, versions in rows.items():
                for number, thing in versions:
                    seeing = [commit for commit in range(newest + 9)
                              if plain_seen(rows, commit).get(key, (None,))[0] == number]
                    last = seeing[-1] + 1
                    self.assertEqual(span_of(book, key, number), (seeing[0], None if last == newest + 9 else last))

    def test_histories_commits_and_writes(self):
        for book, rows, newest in books():
            numbers = sorted({version[0] for versions in rows.values() for version in versions})
            self.assertEqual(commits_of(book), numbers)
            for key in KEYS:
                self.assertEqual(history_of(book, key), rows.get(key, []))
            for number in range(1, newest + 3):
                wanted = {key: dict(rows[key])[number] for key in in_order(rows) if number in dict(rows[key])}
                self.assertEqual(shape(writes_of(book, number)), shape(wanted))

    def test_numbers_that_are_no_version_of_the_key(self):
        book = Book({("a",): [(1, ()), (3, None)], ("b",): [(2, ())]}, 4)
        for odd in [0, 2, 4, 5, True, None, "1", (1,), [1]]:
            for function, rest in [(sees, [4]), (span_of, [])]:
                with self.assertRaises(errors.InvalidCommit) as caught:
                    function(book, *rest, ("a",), odd)
                self.assertIs(caught.exception.value, odd)
                with self.assertRaises(errors.InvalidKey) as caught:
                    function(book, *rest, ("A",), odd)
                with self.assertRaises(errors.InvalidCommit):
                    function(book, *rest, ("none",), 1)
        for odd in [0, -1, True, None, "1"]:
            with self.assertRaises(errors.InvalidCommit) as caught:
                writes_of(book, odd)
            self.assertIs(caught.exception.value, odd)
        self.assertEqual(writes_of(book, 9), {})

    def test_every_version_is_seen_by_its_own_commit(self):
        book = Book({("a",): [(1, ()), (3, None)]}, 4)
        self.assertEqual([sees(book, commit, ("a",), 1) for commit in range(5)], [False, True, True, False, False])
        self.assertEqual([sees(book, commit, ("a",), 3) for commit in range(5)], [False, False, False, True, True])
        self.assertEqual((span_of(book, ("a",), 1), span_of(book, ("a",), 3)), ((1, 3), (3, None)))


if __name__ == "__main__":
    unittest.main()
