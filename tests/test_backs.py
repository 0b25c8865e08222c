"""Promises [38] to [42]: writing pages back."""

import itertools
import random
import unittest

from tests.support import all_rings, all_stamps, are_right, bent, newest_of, outcome_of, plain_waits, shape, some_deeds
from weavestore import errors
from weavestore.backs import ahead_of, closes_ring, free_pages, groups, is_ring, is_row_of_waits, may_write, ring
from weavestore.backs import row_of_waits, waits, why_not_write

RING = [(1, 2, [2, 3], ("mix",)), (2, 3, [2, 3], ("mix",)), (3, 2, [2, 3], ("mix",))]


def some_cases(seed, many, most=5, pages=3):
    """Deeds by chance, each with ALL right stamps."""
    chance = random.Random(seed)
    for _ in range(many):
        deeds = some_deeds(chance, chance.randint(0, most), chance.randint(1, pages))
        for stamps in all_stamps(deeds):
            if are_right(deeds, stamps):
                yield deeds, stamps


def off_pages(deeds, stamps):
    return [page for page, newest in newest_of(deeds).items() if stamps[page] != newest]


def written(deeds, stamps, pages):
    return {page: newest_of(deeds)[page] if page in pages else stamp for page, stamp in stamps.items()}


def subsets(pages):
    return [list(row) for many in range(len(pages) + 1) for row in itertools.combinations(pages, many)]


def fewest_steps(deeds, stamps):
    """The fewest rows of pages, a barrier behind each, by trying ALL: whatever is lost of a row is right; None if none."""
    reached, steps = [stamps], 0
    while newest_of(deeds) not in reached:
        onward = []
        for stands in reached:
            for row in subsets(off_pages(deeds, stands)):
                late = written(deeds, stands, row)
                if late not in reached + onward and all(are_right(deeds, written(deeds, stands, part))
                                                        for part in subsets(row)):
                    onward.append(late)
        if not onward:
            return None
        reached, steps = reached + onward, steps + 1
    return steps


class WaitsTest(unittest.TestCase):
    def test_38_waits_by_their_words(self):
        told = set()
        for deeds, stamps in some_cases(1, 60):
            wanted = plain_waits(deeds, stamps)
            self.assertEqual(waits(deeds, stamps), wanted)
            told.add(min(3, len(wanted)))
        self.assertEqual(told, {0, 1, 2, 3})

    def test_38_a_page_may_be_written_exactly_if_it_waits_for_none(self):
        for deeds, stamps in some_cases(2, 60):
            waiting = {q for q, p, number in waits(deeds, stamps)}
            off = off_pages(deeds, stamps)
            for page in off:
                self.assertIs(are_right(deeds, written(deeds, stamps, [page])), page not in waiting)
            free = free_pages(deeds, stamps)
            self.assertEqual(free, [page for page in off if page not in waiting])
            for row in subsets(free):
                self.assertTrue(are_right(deeds, written(deeds, stamps, row)))

    def test_38_stamps_that_are_all_0_and_the_newest_ones(self):
        deeds = [(1, 2, [2], ()), (2, 3, [2, 3], ()), (3, 2, [2], ())]
        self.assertEqual((waits(deeds, {2: 0, 3: 0}), free_pages(deeds, {2: 0, 3: 0})), ([(2, 3, 2)], [3]))
        self.assertEqual((waits(deeds, {2: 3, 3: 2}), free_pages(deeds, {2: 3, 3: 2})), ([], []))
        self.assertEqual(groups(deeds, {2: 3, 3: 2}), [])
        self.assertEqual(row_of_waits(deeds, {2: 3, 3: 2}), [])
        self.assertEqual((waits([], {}), free_pages([], {}), groups([], {}), ring([], {})), ([], [], [], None))

    def test_38_stamps_that_are_not_right(self):
        deeds = [(1, 2, [2], ()), (2, 3, [2, 3], ()), (3, 2, [2], ())]
        for told in [waits, free_pages, ring, groups, row_of_waits]:
            for stamps in [{2: 3, 3: 0}, {2: 0}, {2: 0, 3: 1}, {2: 0, 3: False}, [0, 0], None]:
                error, _ = outcome_of(told, deeds, stamps)
                self.assertIs(error.__class__, errors.InvalidStamps)
                self.assertIs(error.value, stamps)


class RingsTest(unittest.TestCase):
    def test_39_rings_by_trying_all(self):
        told = set()
        for deeds, stamps in some_cases(3, 120, 6):
            rings = all_rings(list(stamps), plain_waits(deeds, stamps))
            found = ring(deeds, stamps)
            if rings:
                self.assertIn(found, rings)
                self.assertIs(is_ring(deeds, stamps, found), True)
            else:
                self.assertIsNone(found)
                self.assertIs(is_ring(deeds, stamps, None), False)
            for many in range(4):
                for row in itertools.product(range(4), repeat=many):
                    self.assertIs(is_ring(deeds, stamps, list(row)), list(row) in rings)
            told |= {len(each) for each in rings}
        self.assertEqual(told, {2, 3})

    def test_39_the_judge_of_rings(self):
        self.assertIs(is_ring(RING, {2: 0, 3: 0}, [2, 3, 2, 3]), False)
        for value in bent([2, 3]):
            self.assertIs(is_ring(RING, {2: 0, 3: 0}, value), shape(value) in [shape([2, 3]), shape([3, 2])], value)

    def test_39_pages_of_a_ring_never_can_be_written(self):
        for deeds, stamps in some_cases(4, 60, 6):
            for row in all_rings(list(stamps), plain_waits(deeds, stamps))[:1]:
                self.assertIsNone(fewest_steps(deeds, stamps))
                for pages in subsets(off_pages(deeds, stamps)):
                    if set(pages) & set(row) and set(pages) != set(off_pages(deeds, stamps)):
                        late = written(deeds, stamps, [page for page in pages if page not in row] + row[:1])
                        self.assertFalse(are_right(deeds, late))

    def test_40_groups_by_trying_all(self):
        told = set()
        for deeds, stamps in some_cases(5, 70, 5):
            found = groups(deeds, stamps)
            steps = fewest_steps(deeds, stamps)
            if found is None:
                self.assertTrue(all_rings(list(stamps), plain_waits(deeds, stamps)))
                self.assertIsNone(steps)
                continue
            self.assertEqual(len(found), steps)
            told.add(steps)
            stands = stamps
            for row in found:
                self.assertEqual(row, free_pages(deeds, stands))
                stands = written(deeds, stands, row)
            self.assertEqual(stands, newest_of(deeds))
        self.assertTrue({0, 1, 2} <= told)

    def test_40_a_row_of_pages_each_in_a_group_of_its_own(self):
        deeds = [(1, 3, [2, 3], ()), (2, 2, [1, 2], ()), (3, 1, [0, 1], ()), (4, 0, [0], ())]
        stamps = {0: 0, 1: 0, 2: 0, 3: 0}
        self.assertEqual(groups(deeds, stamps), [[3], [2], [1], [0]])
        self.assertEqual(fewest_steps(deeds, stamps), 4)
        self.assertEqual(row_of_waits(deeds, stamps), [0, 1, 2, 3])
        self.assertEqual(groups(deeds[1:], {0: 0, 1: 0, 2: 0}), [[2], [1], [0]])

    def test_40_rows_of_waits(self):
        for deeds, stamps in some_cases(6, 60, 5):
            found = groups(deeds, stamps)
            if found is None:
                for call in [lambda: row_of_waits(deeds, stamps), lambda: is_row_of_waits(deeds, stamps, [])]:
                    error, _ = outcome_of(call)
                    self.assertIs(error.__class__, errors.Refused)
                    self.assertIs(error.value, stamps)
                continue
            pairs = {(q, p) for q, p, number in plain_waits(deeds, stamps)}
            pages = sum(found, [])
            row = row_of_waits(deeds, stamps)
            for many in range(5):
                for value in itertools.product(range(4), repeat=many):
                    wanted = many == len(found) and set(value) <= set(pages) and set(zip(value, value[1:])) <= pairs
                    self.assertIs(is_row_of_waits(deeds, stamps, list(value)), wanted)
                    if list(value) == row:
                        self.assertTrue(wanted)
            self.assertIs(is_row_of_waits(deeds, stamps, row), True)
            self.assertIs(is_row_of_waits(deeds, stamps, None), False)
        deeds = [(1, 0, [0, 1], ()), (2, 1, [1], ())]
        for value in bent([1, 0]):
            self.assertIs(is_row_of_waits(deeds, {0: 0, 1: 0}, value), shape(value) == shape([1, 0]))


class NextDeedTest(unittest.TestCase):
    def cases(self, seed, many):
        chance = random.Random(seed)
        for deeds, stamps in some_cases(seed, many, 6):
            if len(deeds) > 1 and ring(deeds, stamps) is None:
                page = chance.randrange(3)
                reads = sorted({page} | {each for each in range(4) if chance.random() < 0.5})
                yield deeds, stamps, (max([deed[0] for deed in deeds], default=0) + chance.randint(1, 2), page, reads, ())

    def rings_with(self, deeds, stamps, deed):
        more = [*deeds, deed]
        stands = {page: stamps.get(page, 0) for page in newest_of(more)}
        return all_rings(list(stands), plain_waits(more, stands))

    def test_41_deeds_that_close_a_ring(self):
        told = set()
        for deeds, stamps, deed in self.cases(7, 120):
            closes = self.rings_with(deeds, stamps, deed) != []
            self.assertIs(closes_ring(deeds, stamps, deed), closes)
            self.assertIs(closes, self.leads_back(deeds, stamps, deed[1]))
            told.add(closes)
        self.assertEqual(told, {True, False})

    def leads_back(self, deeds, stamps, q):
        """By the rule of [41]: some page that a deed made which read q leads by waits to q."""
        for number, p, reads, words in deeds:
            if q in reads and p != q and stamps[p] < number and stamps[q] < number and q in self.led_to(deeds, stamps, p):
                return True
        return False

    def led_to(self, deeds, stamps, page):
        found = {page}
        for _ in stamps:
            found |= {p for q, p, number in plain_waits(deeds, stamps) if q in found}
        return found

    def test_41_what_has_to_be_written_ahead_and_nothing_less(self):
        many = 0
        for deeds, stamps, deed in self.cases(8, 500):
            told = ahead_of(deeds, stamps, deed)
            if not closes_ring(deeds, stamps, deed):
                self.assertEqual(told, [])
                continue
            many += 1
            q = deed[1]
            just = self.led_to(deeds, stamps, q)
            self.assertEqual(set(sum(told, [])), just)
            self.assertEqual(told, [[page for page in row if page in just] for row in groups(deeds, stamps)][: len(told)])
            stands = stamps
            for row in told:
                self.assertEqual(row, [page for page in free_pages(deeds, stands) if page in just])
                stands = written(deeds, stands, row)
            self.assertFalse(closes_ring(deeds, stands, deed))
            for row in subsets(off_pages(deeds, stamps)):
                late = written(deeds, stamps, row)
                if are_right(deeds, late) and not closes_ring(deeds, late, deed):
                    self.assertTrue(just <= set(row))
        self.assertGreater(many, 20)

    def test_41_wrong_deeds_and_rings_ahead(self):
        both = RING[:2]
        for deed in [(2, 2, [2], ()), (1, 2, [2], ()), (3, 2, [3], ()), (3, 2, [2], []), [3, 2, [2], ()], None, (3, 2, [2])]:
            for told in [closes_ring, ahead_of]:
                error, _ = outcome_of(told, both, {2: 0, 3: 0}, deed)
                self.assertIs(error.__class__, errors.InvalidDeed)
                self.assertIs(error.value, deed)
                stamps = {2: 0, 3: 0}
                error, _ = outcome_of(told, RING, stamps, (4, 2, [2], ()))
                self.assertIs(error.__class__, errors.Refused)
                self.assertIs(error.value, stamps)
                self.assertIs(outcome_of(told, RING, stamps, deed)[0].__class__, errors.InvalidDeed)

    def test_41_a_deed_on_a_page_that_is_new(self):
        self.assertIs(closes_ring(RING[:2], {2: 0, 3: 0}, (3, 9, [2, 3, 9], ())), False)
        self.assertEqual(ahead_of(RING[:2], {2: 0, 3: 0}, (3, 9, [2, 3, 9], ())), [])
        self.assertIs(closes_ring([], {}, (1, 0, [0], ())), False)


class ReasonsTest(unittest.TestCase):
    def test_42_all_reasons(self):
        chance = random.Random(9)
        for deeds, stamps in some_cases(9, 30):
            for page in stamps:
                lines = chance.randrange(9)
                unbarred = [each for each in range(4) if chance.random() < 0.3]
                mixed = [each for each in range(4) if chance.random() < 0.3]
                wanted = [("line", newest_of(deeds)[page])] if newest_of(deeds)[page] > lines else []
                wanted += [("mixed",)] if page in mixed else []
                wanted += [("unbarred",)] if page in unbarred else []
                wanted += [("wait", p, number) for q, p, number in plain_waits(deeds, stamps) if q == page]
                self.assertEqual(why_not_write(deeds, stamps, page, lines, unbarred, mixed), sorted(wanted))
                self.assertIs(may_write(deeds, stamps, page, lines, unbarred, mixed), wanted == [])

    def test_42_as_many_lines_as_are_wanted_and_one_fewer(self):
        deeds = [(4, 2, [2], ())]
        self.assertEqual(why_not_write(deeds, {2: 0}, 2, 4, [], []), [])
        self.assertEqual(why_not_write(deeds, {2: 0}, 2, 3, [], []), [("line", 4)])
        self.assertEqual(why_not_write(deeds, {2: 4}, 2, 3, [], []), [("line", 4)])
        self.assertIs(may_write(deeds, {2: 4}, 2, 4, [1, 3], [0]), True)
        self.assertEqual(why_not_write(deeds, {2: 0}, 2, 0, [2], [2]), [("line", 4), ("mixed",), ("unbarred",)])

    def test_42_wrong_pages_and_counts(self):
        deeds = [(4, 2, [2], ())]
        rows = [((3, None, None, None), errors.InvalidPage, 0), ((True, 0, [], []), errors.InvalidPage, 0),
                ((2, -1, None, None), errors.InvalidCount, 1), ((2, True, None, None), errors.InvalidCount, 1),
                ((2, 0, None, None), errors.InvalidPage, 2), ((2, 0, [2, 1], None), errors.InvalidPage, 2),
                ((2, 0, (1,), []), errors.InvalidPage, 2), ((2, 0, [], [True]), errors.InvalidPage, 3),
                ((2, 0, [], {}), errors.InvalidPage, 3), ((2, 0, [], [1, 1]), errors.InvalidPage, 3)]
        for row, wanted, at in rows:
            for told in [may_write, why_not_write]:
                error, _ = outcome_of(told, deeds, {2: 0}, *row)
                self.assertIs(error.__class__, wanted)
                self.assertIs(error.value, row[at])

    def test_stamps_changed_between_two_calls(self):
        stamps, deeds = {2: 0, 3: 0}, list(RING)
        self.assertIsNotNone(ring(deeds, stamps))
        deeds.pop()
        self.assertEqual(groups(deeds, stamps), [[2], [3]])
        stamps[2] = 1
        self.assertEqual((groups(deeds, stamps), waits(deeds, stamps)), ([[3]], []))
        stamps[3] = 2
        self.assertEqual(groups(deeds, stamps), [])

    def test_a_long_log(self):
        deeds = some_deeds(random.Random(11), 24, 10)
        nought = {page: 0 for page in newest_of(deeds)}
        self.assertEqual(waits(deeds, nought), plain_waits(deeds, nought))
        found = ring(deeds, nought)
        self.assertTrue(found is None or is_ring(deeds, nought, found))


if __name__ == "__main__":
    unittest.main()
