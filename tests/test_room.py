"""Promises [55] to [58]: lives of the log's ring, and the roots that make room in time."""

import itertools
import random
import unittest

from tests.support import bent, errors, odd_objects, spoil
from weavestore.room import are_apart_lines, apart_lines, disc_cells, first_full, fits, given_up, is_life, least_places
from weavestore.room import most_places, places_with, roots_for, still_needed, with_roots

LINE, ROOT = ("line",), ("root",)


def is_count(value):
    return type(value) is int and value >= 0


def plain_life(value):
    """Whether it is a life, as the document words it."""
    if type(value) is not list:
        return False
    written = stood = 0
    for event in value:
        if type(event) is not tuple or not event or type(event[0]) is not str:
            return False
        if event == LINE:
            written += 1
        elif event[0] == "stand" and len(event) == 2 and is_count(event[1]) and stood <= event[1] <= written:
            stood = event[1]
        elif event != ROOT:
            return False
    return True


def all_lives(length):
    """ALL lives of so many events."""
    rows = [([], 0, 0)]
    for _ in range(length):
        late = []
        for life, written, stood in rows:
            late.append((life + [LINE], written + 1, stood))
            late.append((life + [ROOT], written, stood))
            late.extend((life + [("stand", number)], written, number) for number in range(stood, written + 1))
        rows = late
    return [life for life, written, stood in rows]


def some_life(chance, length):
    life, written, stood = [], 0, 0
    for _ in range(length):
        word = chance.choice(["line", "line", "line", "stand", "stand", "root"])
        if word == "line":
            written += 1
            life.append(LINE)
        elif word == "root":
            life.append(ROOT)
        else:
            stood = chance.randint(stood, written)
            life.append(("stand", stood))
    return life


def walk(life):
    """The list, event by event, of (written, given up) ahead of it; then that at the end."""
    found, written, stood, gone = [], 0, 0, 0
    for event in life:
        found.append((written, gone))
        if event == LINE:
            written += 1
        elif event == ROOT:
            gone = stood
        else:
            stood = event[1]
    return found + [(written, gone)]


def fulls(life, places):
    """The positions of the lines whose place is held by a line that is not given up."""
    told = walk(life)
    return [at for at, event in enumerate(life) if event == LINE and told[at][0] + 1 - places > told[at][1]]


def put_in(life, positions):
    found = []
    for at, event in enumerate(life):
        found += [ROOT, event] if at in positions else [event]
    return found


def best_roots(life, places):
    """The fewest roots that make it fit, the greatest of them one by one, told by trying ALL lists of positions."""
    for many in range(len(life) + 1):
        fine = [row for row in itertools.combinations(range(len(life)), many) if not fulls(put_in(life, row), places)]
        if fine:
            return list(max(fine))
    return None


def stretch(life, places, number):
    """The positions of the events behind the first standing that has the line ahead in its place, up to the line."""
    lines = [at for at, event in enumerate(life) if event == LINE]
    first = [at for at, event in enumerate(life) if event[0] == "stand" and event[1] >= number - places][0]
    return set(range(first + 1, lines[number - 1] + 1))


def all_apart(life, places):
    """ALL lists that apart_lines may return, where roots help."""
    roots = best_roots(life, places)
    if roots is None:
        return []
    lines = [at for at, event in enumerate(life) if event == LINE]
    late = [lines.index(at) + 1 for at in fulls(life, places)]
    found = []
    for row in itertools.combinations(late, len(roots)):
        stretches = [stretch(life, places, number) for number in row]
        if all(not one & other for one, other in itertools.combinations(stretches, 2)):
            found.append(list(row))
    return found


class LifeTest(unittest.TestCase):
    def test_lives(self):
        events = [LINE, ROOT, ("stand", 0), ("stand", 1), ("stand", 2)]
        for many in range(6):
            for row in itertools.product(events, repeat=many):
                self.assertIs(is_life(list(row)), plain_life(list(row)))
        for life in all_lives(5):
            self.assertIs(is_life(life), True)

    def test_a_life_without_a_line_and_one_without_a_root(self):
        for life in [[], [("stand", 0)], [ROOT], [ROOT, ("stand", 0), ROOT]]:
            self.assertIs(is_life(life), True)
            for moment in range(len(life) + 1):
                self.assertEqual(given_up(life, moment), 0)
                self.assertEqual(still_needed(life, moment), [])
            for places in [1, 2]:
                self.assertIs(fits(life, places), True)
                self.assertIsNone(first_full(life, places))
                self.assertEqual(roots_for(life, places), [])
                self.assertEqual(apart_lines(life, places), [])
                self.assertIs(are_apart_lines(life, places, []), True)
            self.assertEqual(least_places(life), 1)
            self.assertEqual(places_with(life, 0), 1)
        self.assertEqual(roots_for([LINE, ("stand", 0), LINE], 1), None)
        self.assertEqual(roots_for([LINE, ("stand", 0), ("stand", 1), LINE], 1), [3])
        self.assertEqual(given_up([LINE, ("stand", 1), ROOT, ("stand", 1)], 2), 0)

    def test_no_lives(self):
        for odd in odd_objects():
            self.assertIs(is_life(odd), plain_life(odd))
        for other in bent([LINE, LINE, ("stand", 1), ROOT, ("stand", 2)]):
            self.assertIs(is_life(other), plain_life(other), other)
        for odd in [[("stand", True)], [LINE, ("stand", True)], [LINE, ("stand", 1, 1)], [("line", 1)], [["line"]], ("line",),
                    [LINE, ("stand", 1), ("stand", 0)], [("stand", 1), LINE], [("fall",)], ["line"], [(None,)], [((),)]]:
            self.assertIs(is_life(odd), False)

    def test_what_is_given_up(self):
        for life in all_lives(5):
            told = walk(life)
            for moment in range(6):
                written, gone = told[moment]
                self.assertEqual(given_up(life, moment), gone)
                self.assertEqual(still_needed(life, moment), list(range(gone + 1, written + 1)))
            for odd in [6, -1, True, None, "0"]:
                for function in [given_up, still_needed]:
                    with self.assertRaises(errors.InvalidMoment) as caught:
                        function(life, odd)
                    self.assertIs(caught.exception.value, odd)


class RoomTest(unittest.TestCase):
    def check(self, life):
        for places in range(1, 5):
            late = fulls(life, places)
            self.assertIs(fits(life, places), late == [])
            self.assertEqual(first_full(life, places), late[0] if late else None)
            wanted = best_roots(life, places)
            roots = roots_for(life, places)
            self.assertEqual(roots, wanted, (life, places))
            if roots is None:
                with self.assertRaises(errors.Full) as caught:
                    apart_lines(life, places)
                self.assertIs(caught.exception.value, places)
                self.assertIs(are_apart_lines(life, places, late), False)
                self.assertIs(are_apart_lines(life, places, []), False)
            else:
                rows = all_apart(life, places)
                self.assertIn(apart_lines(life, places), rows)
                self.assertIs(are_apart_lines(life, places, apart_lines(life, places)), True)
                self.assertEqual(fulls(with_roots(life, roots), places), [])
        fine = [places for places in range(1, 9) if not fulls(life, places)]
        self.assertEqual(least_places(life), fine[0])
        rows = {places: best_roots(life, places) for places in range(1, 9)}
        for roots in range(4):
            fine = [places for places, row in rows.items() if row is not None and len(row) <= roots]
            self.assertEqual(places_with(life, roots), fine[0], (life, roots))

    def test_all_small_lives(self):
        for length in range(6):
            for life in all_lives(length):
                self.check(life)

    def test_greater_lives_by_chance(self):
        chance = random.Random(21)
        for _ in range(120):
            self.check(some_life(chance, chance.randint(6, 9)))

    def test_a_ring_of_one_place(self):
        life = [LINE, ("stand", 1), LINE, ("stand", 2), LINE]
        self.assertEqual(roots_for(life, 1), [2, 4])
        self.assertEqual(apart_lines(life, 1), [2, 3])
        self.assertEqual(roots_for([LINE, LINE], 1), None)
        self.assertIs(fits([LINE, ("stand", 1), ROOT, LINE], 1), True)
        self.assertEqual(first_full([LINE, ROOT, ("stand", 1), LINE], 1), 3)

    def test_the_judge_of_lines_apart_by_all_lists(self):
        chance = random.Random(22)
        lives = [some_life(chance, 10) for _ in range(60)]
        for life in lives:
            many = life.count(LINE)
            for places in [1, 2, 3]:
                rows = all_apart(life, places)
                for size in range(4):
                    for row in itertools.product(range(many + 2), repeat=size):
                        self.assertIs(are_apart_lines(life, places, list(row)), list(row) in rows)
        life = [LINE, ("stand", 1), LINE, ("stand", 2), LINE]
        for odd in odd_objects() + [(2, 3), [2, True], [True, 3], ["2", 3], [2, 3, 3], [3, 2], [2, (3,)], [2.0, 3]]:
            self.assertIs(are_apart_lines(life, 1, odd), False)
        self.assertIs(are_apart_lines(life, 1, [2, 3]), True)

    def test_stretches_that_touch_and_stretches_that_do_not(self):
        life = [LINE, ("stand", 1), LINE, LINE, ("stand", 2), LINE]
        self.assertEqual(roots_for(life, 2), [3, 5])
        self.assertEqual(apart_lines(life, 2), [3, 4])
        self.assertEqual(roots_for([LINE, LINE, ("stand", 2), LINE, LINE], 2), [3])
        self.assertEqual(apart_lines([LINE, LINE, ("stand", 2), LINE, LINE], 2), [3])
        self.assertIs(are_apart_lines([LINE, LINE, ("stand", 2), LINE, LINE], 2, [4]), True)

    def test_long_lives(self):
        life = []
        for number in range(1, 301):
            life += [LINE, ("stand", max(0, number - 2))]
        self.assertEqual(least_places(life), 300)
        for places in [3, 4, 10]:
            self.assertEqual(fulls(with_roots(life, roots_for(life, places)), places), [])
        self.assertEqual(places_with(life, 400), 3)
        self.assertEqual(places_with(life, 0), 300)

    def test_with_roots(self):
        life = [LINE, ("stand", 1), ROOT, LINE]
        for many in range(5):
            for row in itertools.combinations(range(4), many):
                self.assertEqual(with_roots(life, list(row)), put_in(life, row))
        self.assertEqual(with_roots([], []), [])
        late = with_roots(life, [])
        spoil(late)
        self.assertEqual(life, [LINE, ("stand", 1), ROOT, LINE])
        for odd in [[4], [1, 0], [1, 1], [True], (1,), None, 0, [-1], ["0"]]:
            with self.assertRaises(errors.InvalidMoment) as caught:
                with_roots(life, odd)
            self.assertIs(caught.exception.value, odd)

    def test_lives_changed_between_two_calls(self):
        life = [LINE, ("stand", 1), LINE]
        self.assertEqual((fits(life, 1), roots_for(life, 1)), (False, [2]))
        life.insert(2, ROOT)
        self.assertEqual((fits(life, 1), roots_for(life, 1)), (True, []))

    def test_every_fall_finds_its_chain_in_a_life_that_fits(self):
        # The line that holds each place, for the chain of a fall at each moment: from the last number given up on.
        chance = random.Random(23)
        for _ in range(300):
            life = some_life(chance, 10)
            for places in [1, 2, 3]:
                held, whole = {}, True
                for (written, gone), event in zip(walk(life), life):
                    if event == LINE:
                        elder = held.get((written + 1) % places)
                        whole = whole and (elder is None or elder <= gone)
                        held[(written + 1) % places] = written + 1
                self.assertIs(fits(life, places), whole)


class CellsTest(unittest.TestCase):
    def test_cells_and_places(self):
        for pages in range(1, 5):
            for places in range(1, 6):
                self.assertEqual(disc_cells(pages, places), 61 * pages + 20 * places)
                self.assertEqual(most_places(disc_cells(pages, places), pages), places)
                self.assertEqual(most_places(disc_cells(pages, places) + 19, pages), places)
                self.assertEqual(most_places(disc_cells(pages, places) - 1, pages), places - 1)
            self.assertEqual(most_places(61 * pages, pages), 0)
            self.assertEqual(most_places(1, pages), 0)

    def test_wrong_counts(self):
        for function in [disc_cells, most_places]:
            for odd in odd_objects() + [0]:
                if not (type(odd) is int and odd > 0):
                    for pair in [(odd, 1), (1, odd), (odd, odd), (odd, None)]:
                        with self.assertRaises(errors.InvalidCount) as caught:
                            function(*pair)
                        self.assertIs(caught.exception.value, odd)


if __name__ == "__main__":
    unittest.main()
