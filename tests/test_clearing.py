"""Promises [65] to [69]: which versions nobody can come to any more."""

import itertools
import random
import unittest

from tests.plainbooks import in_order, plain_seen, plain_state, some_rows
from tests.support import errors, shape, spoil
from weavestore.clearing import cleared, is_cleared, is_same_for, may_go, must_stay, who_sees
from weavestore.versions import Book, state_at


def lookers(newest, held, standing):
    """The commits that somebody may look from: held ones, and those from the standing one on, also later ones."""
    return sorted({*held, *range(standing, newest + 4)})


def seers(rows, newest, held, standing, key, number):
    return [commit for commit in lookers(newest, held, standing) if dict(plain_seen(rows, commit)).get(key, (0,))[0] == number]


def plain_stay(rows, newest, held, standing):
    """The tuples (key, number) that must stay, as the document words it."""
    found = []
    for key in in_order(rows):
        staying = []
        for number, thing in rows[key]:
            seen = seers(rows, newest, held, standing, key, number) != []
            if seen and (thing is not None or staying):
                staying.append((key, number))
        found += staying
    return found


def without(rows, gone):
    late = {key: [version for version in versions if (key, version[0]) not in gone] for key, versions in rows.items()}
    return {key: versions for key, versions in late.items() if versions}


def lots(newest):
    return [list(row) for many in range(newest + 2) for row in itertools.combinations(range(newest + 1), many)]


class ClearingTest(unittest.TestCase):
    def check(self, rows, newest, held, standing):
        book = Book(rows, newest)
        stay = plain_stay(rows, newest, held, standing)
        every = [(key, version[0]) for key in in_order(rows) for version in rows[key]]
        gone = [place for place in every if place not in stay]
        self.assertEqual(must_stay(book, held, standing), stay)
        self.assertEqual(may_go(book, held, standing), gone)
        self.assertIs(is_cleared(book, held, standing), gone == [])
        late = cleared(book, held, standing)
        self.assertEqual(shape(late), shape(Book(without(rows, gone), newest)))
        for commit in lookers(newest, held, standing):
            at = min(commit, newest)
            self.assertEqual(shape(state_at(late, at)), shape(state_at(book, at)))
        for key, number in every:
            seeing = seers(rows, newest, held, standing, key, number)
            self.assertEqual(who_sees(book, held, standing, key, number), seeing[0] if seeing else None)
            if (key, number) in stay:
                self.assertNotEqual(seeing, [])
        self.assertIs(is_same_for(book, late, held, standing), True)
        self.assertIs(is_cleared(late, held, standing), True)
        self.assertEqual(may_go(late, held, standing), [])
        return late

    def test_all_histories_of_one_key(self):
        for newest in range(4):
            numbers = range(1, newest + 1)
            for things in itertools.product([False, None, (1,)], repeat=newest):
                versions = [(number, thing) for number, thing in zip(numbers, things) if thing is not False]
                rows = {("k",): versions} if versions else {}
                for held in lots(newest):
                    for standing in range(newest + 1):
                        self.check(rows, newest, held, standing)

    def test_greater_books_by_chance(self):
        chance = random.Random(41)
        for _ in range(300):
            rows = some_rows(chance, [("a",), ("b", 1), (3,)], 6)
            newest = max([number for versions in rows.values() for number, thing in versions], default=0)
            newest += chance.randint(0, 2)
            held = sorted(chance.sample(range(newest + 1), chance.randint(0, min(3, newest + 1))))
            self.check(rows, newest, held, chance.randint(0, newest))

    def test_each_version_left_out(self):
        # What may go can be left out by itself; of what must stay somebody would miss it.
        chance = random.Random(42)
        for _ in range(200):
            rows = some_rows(chance, [("a",), ("b",)], 5)
            # No two versions of a key tell the same here, so that a missing one can be told.
            rows = {key: [(number, None if thing is None else (number,)) for number, thing in versions]
                    for key, versions in rows.items()}
            newest = max([number for versions in rows.values() for number, thing in versions], default=0)
            held = sorted(chance.sample(range(newest + 1), chance.randint(0, min(2, newest + 1))))
            standing = chance.randint(0, newest)
            book = Book(rows, newest)
            for key in rows:
                for number, thing in rows[key]:
                    other = Book(without(rows, [(key, number)]), newest)
                    if (key, number) in may_go(book, held, standing) and thing is not None:
                        self.assertIs(is_same_for(book, other, held, standing), True)
                    if (key, number) in must_stay(book, held, standing) and thing is not None:
                        self.assertIs(is_same_for(book, other, held, standing), False)

    def test_the_standing_commit_nought_and_the_newest(self):
        rows = {("k",): [(1, (1,)), (4, (2,)), (6, (3,))]}
        self.assertEqual(may_go(Book(rows, 6), [], 0), [])
        self.assertEqual(may_go(Book(rows, 6), [], 6), [(("k",), 1), (("k",), 4)])
        self.assertEqual(may_go(Book(rows, 9), [], 9), [(("k",), 1), (("k",), 4)])
        self.assertEqual(may_go(Book(rows, 6), [0], 6), [(("k",), 1), (("k",), 4)])
        self.assertEqual(may_go(Book({}, 0), [], 0), [])
        self.assertEqual(may_go(Book({}, 0), [0], 0), [])

    def test_a_first_version_that_drops_its_key(self):
        for rows, held, standing, gone in [
            ({("k",): [(1, None)]}, [], 0, [1]), ({("k",): [(1, None)]}, [1], 2, [1]),
            ({("k",): [(1, None), (2, (1,))]}, [1], 2, [1]), ({("k",): [(1, (1,)), (2, None)]}, [], 2, [1, 2]),
            ({("k",): [(1, (1,)), (2, None)]}, [1], 2, []), ({("k",): [(1, (1,)), (2, None)]}, [], 1, []),
            ({("k",): [(1, None), (2, None)]}, [], 0, [1, 2]), ({("k",): [(1, (1,)), (2, None), (3, None)]}, [1], 3, [2]),
        ]:
            self.assertEqual(may_go(Book(rows, 3), held, standing), [(("k",), number) for number in gone])
            self.check(rows, 3, held, standing)

    def test_books_with_the_same_states(self):
        chance = random.Random(43)
        for _ in range(400):
            one, other = [some_rows(chance, [("a",), ("b",)], 3) for _ in range(2)]
            if chance.random() < 0.5:
                other = {key: list(versions) for key, versions in one.items()}
                if other and chance.random() < 0.7:
                    key = chance.choice(sorted(other))
                    other[key] = other[key][1:] or [(3, ())]
            newest = 3 + chance.randint(0, 2)
            late = 3 + chance.randint(0, 2)
            held = sorted(chance.sample(range(newest + 1), chance.randint(0, 2)))
            standing = chance.randint(0, newest)
            commits = sorted({*held, *range(standing, 9)})
            wanted = all(plain_state(one, commit) == plain_state(other, commit) for commit in commits)
            self.assertIs(is_same_for(Book(one, newest), Book(other, late), held, standing), wanted)

    def test_held_commits_are_those_of_the_first_book(self):
        one, other = Book({("a",): [(1, ())]}, 5), Book({("a",): [(1, ())]}, 1)
        self.assertIs(is_same_for(one, other, [4], 5), True)
        with self.assertRaises(errors.InvalidHeld):
            is_same_for(other, one, [4], 5)
        with self.assertRaises(errors.InvalidSnapshot):
            is_same_for(other, one, [1], 5)

    def test_commits_above_the_newest_are_none_of_the_book(self):
        book = Book({("k",): [(1, ())]}, 3)
        for function, more in [(may_go, []), (must_stay, []), (cleared, []), (is_cleared, []), (who_sees, [("k",), 1])]:
            for held, standing, wanted in [([4], 3, errors.InvalidHeld), ([3], 4, errors.InvalidSnapshot), ([4], 4, errors.InvalidHeld)]:
                with self.assertRaises(wanted) as caught:
                    function(book, held, standing, *more)
                self.assertIs(caught.exception.value, held if wanted is errors.InvalidHeld else standing)
            function(book, [3], 3, *more)

    def test_what_is_returned_is_new(self):
        rows = {("k",): [(1, (1,)), (4, (2,))]}
        book = Book(rows, 4)
        held = [2]
        for function in [may_go, must_stay]:
            told = function(book, held, 4)
            again = shape(told)
            spoil(told)
            self.assertEqual(shape(function(book, held, 4)), again)
        self.assertEqual(may_go(book, held, 4), [])
        held.clear()
        self.assertEqual(may_go(book, held, 4), [(("k",), 1)])
        self.assertTrue(book == Book(rows, 4))


if __name__ == "__main__":
    unittest.main()
