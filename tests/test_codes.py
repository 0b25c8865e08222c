"""Promises [11] to [15]: codes, what they tell, when they are safe, how strong they are."""

import itertools
import random
import unittest

from tests.support import bent, odd_objects, outcome_of, shape
from weavestore import errors
from weavestore.codes import bad_picture, cells_parted, cells_unlike, composed, is_bad_picture, is_code, is_picture
from weavestore.codes import is_safe, overwritten, strengths, told_page, told_pages, twos

CODE = [[0, 0, 0], [0, 1, 1], [1, 0, 2], [2, 2, 0]]
BITS = [[0, 0], [0, 1], [1, 1]]


def plain_twos(code, value, changed, unread):
    """By the words of [11]: which two pages a list of signs and None is a picture of."""
    found = []
    for one, other in itertools.combinations_with_replacement(range(len(code)), 2):
        strange = 0
        for cell, sign in enumerate(value):
            if sign is not None and sign not in [code[one][cell], code[other][cell]]:
                strange += 1
        if strange <= changed and value.count(None) <= unread:
            found.append((one, other))
    return found


def in_all(pairs):
    return sorted(set.intersection(*[set(pair) for pair in pairs])) if pairs else []


def all_values(code, unread):
    """ALL lists of the signs of a code, of one other sign, and of None where some may be unread."""
    signs = sorted({sign for page in code for sign in page} | {9}) + ([None] if unread else [])
    return [list(row) for row in itertools.product(signs, repeat=len(code[0]))]


def plain_is_safe(code, changed, unread):
    for value in all_values(code, unread):
        pairs = plain_twos(code, value, changed, unread)
        if pairs and not in_all(pairs):
            return False
    return True


def some_code(chance, pages, cells, signs):
    rows = set()
    while len(rows) < pages:
        rows.add(tuple(chance.randrange(signs) for _ in range(cells)))
    code = [list(row) for row in rows]
    chance.shuffle(code)
    return code


SMALL = [(2, 1, 2), (2, 3, 2), (2, 4, 2), (3, 2, 2), (3, 3, 3), (3, 4, 3), (4, 3, 3), (4, 4, 3), (5, 3, 3), (5, 4, 4)]


class CodesTest(unittest.TestCase):
    def test_11_codes(self):
        for good in [CODE, BITS, [[0], [1]], [[5] * 27, [6] * 27], [[10**30], [0]]]:
            self.assertIs(is_code(good), True)
        wrong = [[[0]], [], [[0], [0]], [[0], [1, 2]], [[], []], [[0], (1,)], [[0], [True]], [[0], [-1]], ([0], [1]),
                 [[0], [None]], [[0], ["1"]], [[0], [1], [0]], [0, 1], {0: [0], 1: [1]}, [[[0]], [[1]]]]
        for value in wrong + [None, True, 3, "x", CODE[0]]:
            self.assertIs(is_code(value), False)

    def test_11_pictures(self):
        self.assertTrue(is_picture(CODE, 0, 1, [0, 1, 0], 0, 0))
        self.assertTrue(is_picture(CODE, 1, 0, [0, 0, 1], 0, 0))
        self.assertFalse(is_picture(CODE, 0, 0, [0, 1, 0], 0, 0))
        self.assertTrue(is_picture(CODE, 0, 0, [0, 7, 0], 1, 0))
        self.assertFalse(is_picture(CODE, 0, 0, [0, 7, None], 1, 0))
        self.assertTrue(is_picture(CODE, 0, 0, [0, 7, None], 1, 1))
        self.assertTrue(is_picture(CODE, 0, 0, [None] * 3, 0, 3))
        self.assertTrue(is_picture(CODE, 0, 0, [8, 8, 8], 3, 0))
        for value in [[0, 1], [0, 1, 0, 0], (0, 1, 0), [0, True, 0], [False, 1, 0], [0, -1, 0], [0, "1", 0], [0, [1], 0]]:
            self.assertIs(is_picture(CODE, 0, 1, value, 3, 3), False)

    def test_12_told_pages(self):
        chance = random.Random(1)
        for pages, cells, signs in SMALL:
            code = some_code(chance, pages, cells, signs)
            for changed, unread in [(0, 0), (1, 0), (0, 1), (1, 1)]:
                for value in chance.sample(all_values(code, unread), min(30, len(all_values(code, unread)))):
                    pairs = plain_twos(code, value, changed, unread)
                    self.assertEqual(twos(code, value, changed, unread), pairs)
                    self.assertEqual(told_pages(code, value, changed, unread), in_all(pairs))
                    told = told_page(code, value, changed, unread)
                    self.assertTrue(told in in_all(pairs) if in_all(pairs) else told is None)
                    for one, other in itertools.product(range(pages), repeat=2):
                        wanted = tuple(sorted([one, other])) in pairs
                        self.assertIs(is_picture(code, one, other, value, changed, unread), wanted)

    def test_13_safe_is_what_trying_all_pictures_tells(self):
        chance = random.Random(2)
        told = set()
        for pages, cells, signs in SMALL * 4:
            code = some_code(chance, pages, cells, signs)
            for changed, unread in [(0, 0), (1, 0), (0, 1), (1, 1)]:
                if (len(set(sum(code, []))) + 2) ** cells > 1300:
                    continue
                wanted = plain_is_safe(code, changed, unread)
                told.add((pages > 2, changed, unread, wanted))
                self.assertIs(is_safe(code, changed, unread), wanted, (code, changed, unread))
        self.assertIn((False, 1, 1, True), told)
        self.assertIn((True, 0, 0, True), told)

    def test_13_the_rule_of_three_and_of_two(self):
        chance = random.Random(3)
        for pages, cells, signs in [(3, 6, 3), (4, 8, 3), (5, 8, 4), (6, 8, 5), (2, 8, 2)] * 6:
            code = some_code(chance, pages, cells, signs)
            for changed, unread in itertools.product(range(3), repeat=2):
                if pages == 2:
                    wanted = sum(x != y for x, y in zip(*code)) >= 2 * changed + unread + 1
                else:
                    rows = itertools.combinations(range(pages), 3)
                    wanted = all(cells_unlike(code, *three) >= 3 * changed + unread + 1 for three in rows)
                    for pair, late in itertools.product(itertools.combinations(range(pages), 2), repeat=2):
                        if not set(pair) & set(late):
                            wanted = wanted and cells_parted(code, pair, late) >= 2 * changed + unread + 1
                self.assertIs(is_safe(code, changed, unread), wanted)

    def test_13_cells_unlike_and_parted(self):
        chance = random.Random(4)
        for _ in range(20):
            code = some_code(chance, 4, 5, 3)
            for three in itertools.permutations(range(4), 3):
                rows = zip(*[code[position] for position in three])
                self.assertEqual(cells_unlike(code, *three), sum(len(set(row)) == 3 for row in rows))
            for pair, late in itertools.product(itertools.product(range(4), repeat=2), repeat=2):
                signs = [({code[x][cell] for x in pair}, {code[y][cell] for y in late}) for cell in range(5)]
                self.assertEqual(cells_parted(code, pair, late), sum(not one & other for one, other in signs))

    def test_13_pages_that_are_among_those_ahead(self):
        for row, field in [((1, 1, 2), 1), ((1, 2, 1), 1), ((1, 2, 2), 2), ((1, 2, 4), 4), ((True, 1, 1), True),
                           ((0, False, 9), False)]:
            error, _ = outcome_of(cells_unlike, CODE, *row)
            self.assertIs(error.__class__, errors.InvalidPage)
            self.assertIs(error.value, field)

    def test_14_bad_pictures(self):
        chance = random.Random(5)
        for pages, cells, signs in SMALL * 6 + [(6, 8, 4), (6, 8, 9), (2, 8, 3)] * 4:
            code = some_code(chance, pages, cells, signs)
            for changed, unread in itertools.product(range(3), repeat=2):
                told = bad_picture(code, changed, unread)
                if is_safe(code, changed, unread):
                    self.assertIsNone(told)
                    continue
                picture, pairs = told
                self.assertIs(is_bad_picture(code, changed, unread, told), True)
                all_pairs = plain_twos(code, picture, changed, unread)
                self.assertTrue(2 <= len(pairs) <= 3 and pairs == sorted(set(pairs)))
                self.assertTrue(set(pairs) <= set(all_pairs))
                self.assertEqual(in_all(pairs), [])
                self.assertEqual(told_pages(code, picture, changed, unread), [])

    def test_14_the_judge_of_bad_pictures(self):
        for code, changed, unread in [(BITS, 0, 0), (CODE, 0, 1), (CODE, 1, 0), ([[0], [1]], 0, 1)]:
            told = bad_picture(code, changed, unread)
            for value in bent(told):
                self.assertIs(is_bad_picture(code, changed, unread, value), self.look(code, changed, unread, value), value)
        self.assertIs(is_bad_picture(CODE, 0, 0, None), False)
        self.assertIs(is_bad_picture(BITS, 0, 0, ([0, 1], [(0, 2), (1, 1)])), True)
        self.assertIs(is_bad_picture(BITS, 0, 0, ([0, 1], [(1, 1), (0, 2)])), False)
        self.assertIs(is_bad_picture(BITS, 0, 0, ([0, 1], [(2, 0), (1, 1)])), False)
        self.assertIs(is_bad_picture(BITS, 0, 0, ([0, 1], [(0, 1), (0, 2), (1, 1), (1, 2)])), False)
        self.assertIs(is_bad_picture(BITS, 0, 0, ([0, 1], [(0, 2), (True, 1)])), False)

    def look(self, code, changed, unread, value):
        """Whether a value is a bad picture: among ALL lists and ALL two or three tuples."""
        pairs = list(itertools.combinations_with_replacement(range(len(code)), 2))
        rows = [list(row) for many in (2, 3) for row in itertools.combinations(pairs, many)]
        if type(value) is not tuple or len(value) != 2 or shape(value[1]) not in [shape(row) for row in rows]:
            return False
        picture = value[0]
        if type(picture) is not list or len(picture) != len(code[0]):
            return False
        if not all(sign is None or type(sign) is int and sign >= 0 for sign in picture):
            return False
        return set(value[1]) <= set(plain_twos(code, picture, changed, unread)) and in_all(value[1]) == []

    def test_15_strengths(self):
        chance = random.Random(6)
        for pages, cells, signs in [(2, 5, 2), (3, 8, 3), (3, 8, 8), (4, 8, 9), (6, 8, 9), (3, 2, 2)] * 8:
            code = some_code(chance, pages, cells, signs)
            wanted = []
            while is_safe(code, len(wanted), 0):
                wanted.append(max(unread for unread in range(cells + 1) if is_safe(code, len(wanted), unread)))
            self.assertEqual(strengths(code), wanted)
        self.assertEqual(strengths(BITS), [])

    def test_15_composed(self):
        outer, inner = [[0, 1], [2, 3]], CODE
        self.assertEqual(composed(outer, inner), [CODE[0] + CODE[1], CODE[2] + CODE[3]])
        self.assertEqual(composed([[0], [1]], BITS), [[0, 0], [0, 1]])
        error, _ = outcome_of(composed, [[0], [3]], BITS)
        self.assertEqual((error.__class__, error.value), (errors.Unlike, BITS))
        self.assertEqual(composed([[0], [2]], BITS), [[0, 0], [1, 1]])

    def test_15_composed_ones_are_safe_if_both_are(self):
        chance = random.Random(7)
        many = 0
        while many < 10:
            inner = some_code(chance, 4, 4, 4)
            outer = some_code(chance, chance.choice([2, 3]), 3, 4)
            if is_safe(inner, 0, 0) and is_safe(outer, 0, 0):
                self.assertTrue(is_safe(composed(outer, inner), 0, 0))
                many += 1

    def test_15_overwritten(self):
        chance = random.Random(8)
        for pages, cells, signs in [(3, 3, 3), (4, 4, 3), (4, 3, 4)] * 5:
            code = some_code(chance, pages, cells, signs)
            for one, other in itertools.product(range(pages), repeat=2):
                value = [chance.choice(two) for two in zip(code[one], code[other])]
                for page in range(pages):
                    over = sorted(chance.sample(range(cells), chance.randrange(cells + 1)))
                    late = overwritten(code, value, page, over)
                    self.assertEqual(late, [code[page][at] if at in over else value[at] for at in range(cells)])
                    if page in told_pages(code, value, 0, 0):
                        for two in twos(code, value, 0, 0):
                            self.assertIn(two, twos(code, late, 0, 0))
        for value in [[0, 0, 9], [0, None, 0], [1, 2, 1], (0, 0, 0)]:
            error, _ = outcome_of(overwritten, CODE, value, 7, None)
            self.assertIs(error.__class__, errors.InvalidPage)
            self.assertIs(error.value, value)
        for over in [[3], [1, 0], [0, 0], [True], (0,), None]:
            error, _ = outcome_of(overwritten, CODE, [0, 0, 0], 0, over)
            self.assertIs(error.__class__, errors.InvalidCell)
            self.assertIs(error.value, over)

    def test_no_object_is_taken_for_a_code(self):
        for odd in odd_objects():
            wanted = odd in ([[0], [1]], [[0, 0], [1, 1], [0, 1]]) and isinstance(odd, list)
            self.assertIs(is_code(odd), wanted)

    def test_codes_of_the_greatest_size(self):
        code = [[(page * place) % 13 for place in range(1, 28)] for page in range(12)]
        self.assertEqual(told_pages(code, code[5], 0, 0), [5])
        self.assertEqual(len(twos(code, code[5], 0, 0)), 12)


if __name__ == "__main__":
    unittest.main()
