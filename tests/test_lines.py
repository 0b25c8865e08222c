"""Promises [16] to [20]: lines over a prime."""

import itertools
import random
import unittest

from tests.support import GREAT, bent, is_row, odd_objects, outcome_of
from weavestore import errors
from weavestore.codes import is_safe
from weavestore.lines import Line, agreeing, holds, mixture_of, number_of, page_of, read_line

SMALL = [(3, 1, 1), (3, 3, 1), (5, 5, 1), (5, 5, 2), (7, 7, 2), (7, 5, 2), (11, 9, 2), (11, 11, 2), (11, 9, 3), (13, 13, 3)]


def plain_page(line, number):
    """The page of a number, by the words of [16]."""
    signs = []
    for cell in range(line.cells()):
        rest, total, power = number, 0, 1
        for _ in range(line.size()):
            total, rest, power = total + rest % line.prime() * power, rest // line.prime(), power * (cell + 1)
        signs.append(total % line.prime())
    return signs


def plain_near(pages, value, changed):
    """The numbers of ALL pages that are near a list, by the words of [18]."""
    readable = len(value) - value.count(None)
    found = []
    for number, page in enumerate(pages):
        alike = sum(sign == other for sign, other in zip(page, value))
        if 2 * alike >= readable - changed:
            found.append(number)
    return found


class LinesTest(unittest.TestCase):
    def test_16_lines(self):
        primes = [prime for prime in range(3, 1000) if all(prime % by for by in range(2, prime))]
        for prime in range(1010):
            error, line = outcome_of(Line, prime, 1, 1)
            if prime in primes:
                self.assertEqual((line.prime(), line.cells(), line.size()), (prime, 1, 1))
            else:
                self.assertEqual((error.__class__, error.value), (errors.InvalidLine, prime))
        for prime in [3, 997, GREAT]:
            self.assertEqual(Line(prime, prime, 1).cells(), prime)
            self.assertEqual(outcome_of(Line, prime, prime + 1, 1)[0].value, prime + 1)
            self.assertEqual(outcome_of(Line, prime, 0, 1)[0].value, 0)
        for prime in [GREAT - 2, GREAT + 2, 1009, 2**31 - 1, 961]:
            self.assertEqual(outcome_of(Line, prime, 1, 1)[0].value, prime)

    def test_16_just_as_many_cells_as_are_wanted_and_one_fewer(self):
        for size in range(1, 16):
            self.assertEqual(Line(67, 4 * (size - 1) + 1, size).size(), size)
            error, _ = outcome_of(Line, 67, max(1, 4 * (size - 1)), size)
            self.assertTrue(size == 1 or (error.__class__, error.value) == (errors.InvalidLine, size))
        self.assertEqual(outcome_of(Line, 67, 5, 0)[0].value, 0)
        self.assertEqual(Line(GREAT, 61, 16).size(), 16)
        self.assertEqual(outcome_of(Line, GREAT, 60, 16)[0].value, 16)

    def test_16_the_first_of_the_three_that_is_wrong(self):
        rows = [((4, 0, 0), 0), ((5, 0, 0), 1), ((5, 5, 0), 2), ((True, "x", []), 0), ((5, True, []), 1), ((5, 5, True), 2),
                ((None, None, None), 0), ((5, None, None), 1), ((5, 5, None), 2)]
        for row, at in rows:
            error, _ = outcome_of(Line, *row)
            self.assertIs(error.__class__, errors.InvalidLine)
            self.assertIs(error.value, row[at])

    def test_16_equality(self):
        self.assertTrue(Line(11, 8, 2) == Line(prime=11, cells=8, size=2))
        for other in [Line(13, 8, 2), Line(11, 9, 2), Line(11, 8, 1)] + odd_objects():
            self.assertFalse(Line(11, 8, 2) == other)
            self.assertTrue(Line(11, 8, 2) != other)

    def test_17_pages_and_their_numbers(self):
        for row in SMALL:
            line = Line(*row)
            pages = []
            for number in range(min(2000, line.prime() ** line.size())):
                page = page_of(line, number)
                self.assertEqual(page, plain_page(line, number))
                self.assertEqual(number_of(line, page), number)
                pages.append(page)
            last = line.prime() ** line.size() - 1
            self.assertEqual(number_of(line, page_of(line, last)), last)
            self.assertIs(outcome_of(page_of, line, last + 1)[0].__class__, errors.InvalidPage)
        line = Line(GREAT, 61, 16)
        for number in [0, 1, GREAT, GREAT**16 - 1, 53**120]:
            self.assertEqual(number_of(line, plain_page(line, number)), number)

    def test_17_lists_that_are_no_page(self):
        line = Line(5, 5, 2)
        pages = [page_of(line, number) for number in range(25)]
        for row in itertools.product(range(5), repeat=5):
            error, number = outcome_of(number_of, line, list(row))
            if list(row) in pages:
                self.assertEqual(pages[number], list(row))
            else:
                self.assertIs(error.__class__, errors.InvalidPage)
        for wrong in [(0,) * 5, [0] * 4, [0] * 6, [5] * 5, [None] + [0] * 4, [False] * 5, [-1] * 5, [], None]:
            error, _ = outcome_of(number_of, line, wrong)
            self.assertIs(error.__class__, errors.InvalidPage)
            self.assertIs(error.value, wrong)

    def test_17_holds(self):
        for cells, size, changed, unread in itertools.product([1, 5, 9, 20, 61], [1, 2, 3, 5], range(4), range(6)):
            if cells > 4 * (size - 1):
                wanted = cells > 4 * (size - 1) + 3 * changed + unread
                self.assertIs(holds(Line(67, cells, size), changed, unread), wanted)

    def test_17_a_line_that_holds_is_safe(self):
        told = set()
        for prime, cells, size in [(3, 3, 1), (5, 5, 1), (5, 5, 2), (7, 7, 1)]:
            line = Line(prime, cells, size)
            code = [page_of(line, number) for number in range(min(8, prime**size))]
            for changed, unread in itertools.product(range(2), range(4)):
                if holds(line, changed, unread):
                    self.assertTrue(is_safe(code, changed, unread))
                    told.add((changed, unread))
        self.assertTrue({(0, 0), (1, 0), (0, 1)} <= told)

    def test_18_agreeing(self):
        chance = random.Random(1)
        line = Line(11, 8, 2)
        for _ in range(100):
            number = chance.randrange(121)
            value = [chance.choice([None] + list(range(11))) for _ in range(8)]
            self.assertEqual(agreeing(line, number, value), sum(x == y for x, y in zip(plain_page(line, number), value)))
        self.assertEqual(agreeing(line, 0, [None] * 8), 0)
        for value in bent([0, None, 10, 1, 2, 3, 4, 5]):
            error, _ = outcome_of(agreeing, line, 0, value)
            fits = is_row(value, 11) and len(value) == 8
            self.assertTrue(error is None if fits else error.__class__ is errors.InvalidPage and error.value is value)

    def test_19_reading_is_what_trying_all_pages_tells(self):
        chance = random.Random(2)
        told = set()
        for row in SMALL:
            line = Line(*row)
            pages = [page_of(line, number) for number in range(line.prime() ** line.size())]
            for changed, unread in itertools.product(range(4), range(7)):
                for _ in range(6 if holds(line, changed, unread) else 0):
                    one, other = chance.randrange(len(pages)), chance.randrange(len(pages))
                    value = [chance.choice(two) for two in zip(pages[one], pages[other])]
                    for cell in chance.sample(range(len(value)), min(changed, len(value))):
                        value[cell] = chance.randrange(line.prime())
                    for cell in chance.sample(range(len(value)), chance.randint(0, min(unread, len(value)))):
                        value[cell] = None
                    near = plain_near(pages, value, changed)
                    self.assertEqual(read_line(line, value, changed, unread), near)
                    self.assertTrue(near and set(near) <= {one, other})
                    told.add(len(near))
        self.assertEqual(told, {1, 2})

    def test_19_all_mixtures_of_a_small_line(self):
        line = Line(5, 5, 2)
        pages = [page_of(line, number) for number in range(25)]
        for one, other in itertools.product(range(0, 25, 3), range(25)):
            for many in range(6):
                value = mixture_of(line, one, other, list(range(many)))
                self.assertEqual(read_line(line, value, 0, 0), plain_near(pages, value, 0))

    def test_19_the_greatest_line(self):
        chance = random.Random(3)
        line = Line(GREAT, 61, 16)
        for many in [0, 1, 15, 16, 30, 31, 45, 46, 60, 61]:
            one, other = chance.randrange(GREAT**16), chance.randrange(GREAT**16)
            value = mixture_of(line, one, other, sorted(chance.sample(range(61), many)))
            self.assertEqual(read_line(line, value, 0, 0), [one if many < 31 else other])

    def test_19_both_pages_if_they_agree_in_a_cell(self):
        line = Line(11, 9, 2)
        one, other = 37, 37 + 11 * 4 - 4
        self.assertEqual(page_of(line, one)[0], page_of(line, other)[0])
        value = mixture_of(line, one, other, [5, 6, 7, 8])
        self.assertEqual((agreeing(line, one, value), agreeing(line, other, value)), (5, 5))
        self.assertEqual(read_line(line, value, 0, 0), sorted([one, other]))

    def test_19_as_many_unread_cells_as_hold_and_one_more(self):
        line = Line(11, 8, 2)
        value = [None] * 3 + page_of(line, 100)[3:]
        self.assertEqual(read_line(line, value, 0, 3), [100])
        error, _ = outcome_of(read_line, line, value, 0, 2)
        self.assertIs(error.__class__, errors.InvalidPage)
        self.assertIs(error.value, value)
        error, _ = outcome_of(read_line, line, value, 0, 4)
        self.assertIs(error.__class__, errors.Refused)
        self.assertIs(error.value, line)
        error, _ = outcome_of(read_line, line, value, 2, 2)
        self.assertIs(error.__class__, errors.InvalidPage)
        error, _ = outcome_of(read_line, line, page_of(line, 3), 1, 1)
        self.assertIs(error.__class__, errors.Refused)

    def test_19_lists_that_are_no_picture_end_too(self):
        chance = random.Random(4)
        for row in SMALL:
            line = Line(*row)
            for _ in range(10):
                value = [chance.randrange(line.prime()) for _ in range(line.cells())]
                self.assertIsInstance(read_line(line, value, 0, 0), list)

    def test_20_mixtures(self):
        line = Line(7, 7, 2)
        for one, other in itertools.product(range(0, 49, 5), range(0, 49, 7)):
            for cells in [[], [0], [6], [1, 3, 5], list(range(7))]:
                wanted = [plain_page(line, other if cell in cells else one)[cell] for cell in range(7)]
                self.assertEqual(mixture_of(line, one, other, cells), wanted)
        for cells in [[7], [0, 0], [3, 1], [-1], [True], (1,), None, 3]:
            error, _ = outcome_of(mixture_of, line, 1, 2, cells)
            self.assertIs(error.__class__, errors.InvalidCell)
            self.assertIs(error.value, cells)


if __name__ == "__main__":
    unittest.main()
