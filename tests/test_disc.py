"""Promises [6] to [10]: discs, pictures, falls, clouds, lists of cells."""

import itertools
import random
import unittest

from tests.support import GREAT, is_cells, is_content, is_count, odd_objects, outcome_of, shape
from weavestore import errors
from weavestore.disc import Disc, cloud, disc_of, fall, is_in_cloud, is_picture, many_in_cloud, many_pictures, may_hold
from weavestore.disc import number_of_picture, picture_at, unlike_cells, with_cells


def some_disc(chance, cells, steps):
    disc = Disc(cells)
    for _ in range(steps):
        if chance.random() < 0.15:
            disc.barrier()
        else:
            disc.write(chance.randrange(cells), (chance.randrange(2), chance.randrange(2)))
    return disc


def plain_holds(disc):
    """The unlike contents of each cell, by the words of [7]."""
    found = []
    for cell, stands in enumerate(disc.standing()):
        may = [stands]
        for at, content in disc.pending():
            if at == cell and content not in may:
                may.append(content)
        found.append(may)
    return found


def plain_pictures(standing, writes):
    """ALL pictures, as tuples, of a disc on which writes are pending."""
    held = [{content} for content in standing]
    for cell, content in writes:
        held[cell].add(content)
    return set(itertools.product(*held))


class DiscTest(unittest.TestCase):
    def test_6_numbers_of_cells(self):
        self.assertEqual(Disc(1).standing(), [None])
        self.assertEqual(Disc(2000).cells(), 2000)
        self.assertEqual(Disc(cells=3).newest(), [None] * 3)
        for wrong in [0, 2001, -1, True, False, None, "3", [3], (3,), {}, 10**31, Disc(1)]:
            error, result = outcome_of(Disc, wrong)
            self.assertIs(error.__class__, errors.InvalidCount)
            self.assertIs(error.value, wrong)

    def test_6_writing_and_barriers(self):
        disc = Disc(3)
        self.assertIsNone(disc.write(0, (1, 7)))
        self.assertIsNone(disc.write(cell=2, content=(0, GREAT - 1)))
        self.assertEqual(disc.pending(), [(0, (1, 7)), (2, (0, GREAT - 1))])
        self.assertEqual(disc.standing(), [None] * 3)
        self.assertEqual(disc.newest(), [(1, 7), None, (0, GREAT - 1)])
        self.assertEqual([disc.read(cell) for cell in range(3)], disc.newest())
        disc.write(0, (2, 8))
        disc.write(0, (1, 7))
        self.assertEqual(disc.pending()[2:], [(0, (2, 8)), (0, (1, 7))])
        self.assertIsNone(disc.barrier())
        self.assertEqual(disc.standing(), [(1, 7), None, (0, GREAT - 1)])
        self.assertEqual(disc.newest(), disc.standing())
        self.assertEqual(disc.pending(), [])
        self.assertIsNone(disc.read(cell=1))
        disc.write(1, (10**30, 0))
        self.assertEqual(disc.read(1), (10**30, 0))

    def test_6_wrong_cells_and_contents_change_nothing(self):
        for odd in odd_objects() + [2, -1, (0, GREAT), (1, -1), (-1, 1), (0, True), [0, 1], (0, 1, 2)]:
            disc = Disc(2)
            disc.write(1, (3, 3))
            before = shape(disc)
            for other in [(0, 1), odd]:
                error, _ = outcome_of(disc.write, odd, other)
                if not is_count(odd) or odd >= 2:
                    self.assertIs(error.__class__, errors.InvalidCell)
                    self.assertIs(error.value, odd)
                    self.assertEqual(shape(disc), before)
            error, _ = outcome_of(disc.read, odd)
            if is_count(odd) and odd < 2:
                self.assertIsNone(error)
            else:
                self.assertIs(error.__class__, errors.InvalidCell)
                self.assertIs(error.value, odd)
            disc = Disc(2)
            error, _ = outcome_of(disc.write, 0, odd)
            if is_content(odd):
                self.assertIsNone(error)
            else:
                self.assertIs(error.__class__, errors.InvalidContent)
                self.assertIs(error.value, odd)
                self.assertEqual(shape(disc), shape(Disc(2)))

    def test_6_equality_and_copies(self):
        one, other = Disc(2), Disc(2)
        self.assertTrue(one == other)
        self.assertFalse(one != other)
        one.write(0, (1, 1))
        self.assertFalse(one == other)
        other.write(0, (1, 1))
        self.assertTrue(one == other)
        other.write(0, (1, 1))
        self.assertFalse(one == other)
        self.assertEqual(one.newest(), other.newest())
        one.barrier()
        other.barrier()
        self.assertTrue(one == other)
        self.assertFalse(Disc(1) == Disc(2))
        for odd in odd_objects():
            self.assertFalse(Disc(2000) == odd)
        late = one.copy()
        self.assertTrue(late == one)
        late.write(1, (5, 5))
        self.assertEqual((one.pending(), late.pending()), ([], [(1, (5, 5))]))
        one.write(0, (9, 9))
        one.barrier()
        self.assertEqual((late.read(0), late.standing()[0]), ((1, 1), (1, 1)))

    def test_6_lists_that_are_returned_are_new(self):
        disc = Disc(2)
        disc.write(0, (1, 1))
        before = shape(disc)
        for told in [disc.standing(), disc.newest(), disc.pending()]:
            told.append((7, 7))
            told[0] = (8, 8)
        self.assertEqual(shape(disc), before)

    def test_7_pictures(self):
        chance = random.Random(1)
        for _ in range(60):
            disc = some_disc(chance, 3, chance.randrange(10))
            held = plain_holds(disc)
            self.assertEqual([may_hold(disc, cell) for cell in range(3)], held)
            rows = [list(row) for row in itertools.product(*held)]
            self.assertEqual(many_pictures(disc), len(rows))
            self.assertEqual([picture_at(disc, number) for number in range(len(rows))], rows)
            self.assertEqual([number_of_picture(disc, row) for row in rows], list(range(len(rows))))
            any_contents = [None] + [(x, y) for x in range(2) for y in range(2)]
            for row in itertools.product(any_contents, repeat=3):
                self.assertIs(is_picture(disc, list(row)), list(row) in rows)
                self.assertIs(is_picture(disc, row), False)
            self.assertIs(is_picture(disc, rows[0] + [None]), False)
            self.assertIs(is_picture(disc, rows[0][1:]), False)
            self.assertIs(is_picture(disc, None), False)

    def test_7_a_content_written_again_comes_once_and_booleans_are_no_numbers(self):
        disc = Disc(1)
        for content in [(1, 1), (0, 1), (1, 1)]:
            disc.write(0, content)
        self.assertEqual(may_hold(disc, 0), [None, (1, 1), (0, 1)])
        self.assertTrue(is_picture(disc, [(1, 1)]))
        self.assertFalse(is_picture(disc, [(1, True)]))
        self.assertFalse(is_picture(disc, [(False, 1)]))

    def test_7_the_last_number_of_a_great_disc(self):
        disc = Disc(2000)
        for cell in range(2000):
            disc.write(cell, (1, cell))
        self.assertEqual(many_pictures(disc), 2**2000)
        self.assertEqual(picture_at(disc, 2**2000 - 1), disc.newest())
        self.assertEqual(number_of_picture(disc, disc.newest()), 2**2000 - 1)
        self.assertEqual(picture_at(disc, 1), [None] * 1999 + [(1, 1999)])
        error, _ = outcome_of(picture_at, disc, 2**2000)
        self.assertIs(error.__class__, errors.InvalidCount)

    def test_8_falls(self):
        chance = random.Random(2)
        for _ in range(40):
            disc = some_disc(chance, 3, 8)
            before = shape(disc)
            for number in range(many_pictures(disc)):
                picture = picture_at(disc, number)
                late = fall(disc, picture)
                self.assertEqual((late.standing(), late.newest(), late.pending()), (picture, picture, []))
                self.assertTrue(disc_of(picture) == late)
                late.write(0, (5, 5))
            self.assertEqual(shape(disc), before)
            self.assertTrue(fall(disc, disc.newest()) != disc or disc.pending() == [])

    def test_8_lists_of_1_to_2000(self):
        self.assertEqual(disc_of([(3, 4)]).standing(), [(3, 4)])
        self.assertEqual(disc_of([None] * 2000).cells(), 2000)
        for wrong in [[], [None] * 2001, (None,), [False]]:
            error, _ = outcome_of(disc_of, wrong)
            self.assertIs(error.__class__, errors.InvalidChoice)
            self.assertIs(error.value, wrong)

    def test_9_clouds_are_just_what_falls_in_falls_leave(self):
        chance = random.Random(3)
        for _ in range(60):
            disc = some_disc(chance, 2, chance.randrange(6))
            runs = [[(chance.randrange(2), (2, chance.randrange(3))) for _ in range(chance.randrange(3))]
                    for _ in range(chance.randrange(3))]
            left = plain_pictures(disc.standing(), disc.pending())
            for run in runs:
                left = {late for picture in left for late in plain_pictures(picture, run)}
            told = cloud(disc, runs)
            self.assertEqual(set(itertools.product(*told)), left)
            self.assertEqual(many_in_cloud(told), len(left))
            for cell in range(2):
                self.assertEqual(told[cell][: len(may_hold(disc, cell))], may_hold(disc, cell))
                later = [content for run in runs for at, content in run if at == cell]
                self.assertEqual(told[cell], list(dict.fromkeys(may_hold(disc, cell) + later)))
            for row in itertools.product([None, (0, 0), (2, 0), (2, 1), (2, 2)], repeat=2):
                self.assertIs(is_in_cloud(told, list(row)), row in left)

    def test_9_doubles_count_once(self):
        self.assertEqual(many_in_cloud([[None, None, (1, 1)], [(1, 1), (1, 1)]]), 2)
        self.assertTrue(is_in_cloud([[None]], [None]))
        self.assertFalse(is_in_cloud([[None]], None))
        self.assertFalse(is_in_cloud([[(1, 1)]], [(1, True)]))
        self.assertFalse(is_in_cloud([[(1, 1)], [None]], [(1, 1)]))

    def test_10_unlike_cells(self):
        chance = random.Random(4)
        for _ in range(50):
            rows = [[chance.choice([None, (0, 0), (0, 1)]) for _ in range(5)] for _ in range(2)]
            wanted = [cell for cell in range(5) if rows[0][cell] != rows[1][cell]]
            self.assertEqual(unlike_cells(*rows), wanted)
        error, _ = outcome_of(unlike_cells, [None], [None, None])
        self.assertEqual((error.__class__, error.value), (errors.Unlike, [None, None]))
        self.assertEqual(unlike_cells([None] * 2500, [None] * 2499 + [(0, 0)]), [2499])

    def test_10_with_cells(self):
        one = [None, (1, 7), (2, 2)]
        self.assertEqual(with_cells(one, {2: None, 0: (5, 5)}), [(5, 5), (1, 7), None])
        self.assertEqual(with_cells(one, {}), one)
        self.assertIsNot(with_cells(one, {}), one)
        self.assertEqual(one, [None, (1, 7), (2, 2)])

    def test_10_wrong_harms(self):
        one = [None, (1, 7), (2, 2)]
        bad = (0, GREAT)
        cases = [
            ({3: (0, 0)}, errors.InvalidCell, 3), ({True: (0, 0)}, errors.InvalidCell, True),
            ({0: bad}, errors.InvalidContent, bad), ({0: None, "x": bad}, errors.InvalidCell, "x"),
            ({0: bad, "x": bad}, errors.InvalidContent, bad), ({"x": bad, 0: bad}, errors.InvalidCell, "x"),
            ({0: False}, errors.InvalidContent, False), ({(0,): None}, errors.InvalidCell, (0,)),
        ]
        for harms, wanted, field in cases:
            before = shape(harms)
            error, _ = outcome_of(with_cells, one, harms)
            self.assertIs(error.__class__, wanted)
            self.assertIs(error.value.__class__, field.__class__)
            self.assertEqual(error.value, field)
            self.assertEqual(shape(harms), before)
        for odd in odd_objects():
            if not isinstance(odd, dict):
                error, _ = outcome_of(with_cells, one, odd)
                self.assertIs(error.__class__, errors.InvalidCell)
                self.assertIs(error.value, odd)
                error, _ = outcome_of(with_cells, odd, 5)
                if not is_cells(odd) or odd == []:
                    self.assertIs(error.__class__, errors.InvalidChoice)
                    self.assertIs(error.value, odd)

    def test_discs_changed_between_two_calls(self):
        disc = Disc(1)
        self.assertEqual(many_pictures(disc), 1)
        disc.write(0, (0, 0))
        self.assertEqual((many_pictures(disc), may_hold(disc, 0)), (2, [None, (0, 0)]))
        disc.barrier()
        self.assertEqual((many_pictures(disc), may_hold(disc, 0)), (1, [(0, 0)]))


if __name__ == "__main__":
    unittest.main()
