"""Promises [49] to [54]: opening again, and what can be told where pages or lines are lost."""

import itertools
import random
import unittest

from tests.support import errors, is_count, lead_back, odd_objects, outcome_of, some_deeds
from weavestore.opening import greatest_told, is_why_untold, lines_told, losses, opened, told_pages, why_untold


def chain_of(deeds, lasts, beginning=0):
    """The chain of deeds, the numbers of lasts being the last ones of their commits."""
    numbers = [beginning] + [deed[0] for deed in deeds]
    return [(deed[0], ahead, deed[0] in lasts, deed) for deed, ahead in zip(deeds, numbers)]


def committed_deeds(lines):
    ends = [at + 1 for at, line in enumerate(lines) if line[2]]
    return [line[3] for line in lines[: ends[-1]]] if ends else []


def newest_of(lines, ahead):
    ends = [line[0] for line in lines if line[2]]
    return ends[-1] if ends else ahead


def begun(stamps, deeds, lost):
    """What stands on the pages: the number of the last deed behind which a stamp is, or something never told."""
    stands = {}
    for page, stamp in stamps.items():
        numbers = [0] + [deed[0] for deed in deeds if deed[1] == page and deed[0] <= stamp]
        stands[page] = ("lost", page) if page in lost else numbers[-1]
    return stands


def done_again(stands, deeds, row):
    """What stands behind some deeds done again, and the dictionary of what stood in the first run."""
    stands, first = dict(stands), {page: 0 for page in stands}
    for deed in deeds:
        if deed in row:
            alike = all(stands[page] == first[page] for page in deed[2])
            stands[deed[1]] = deed[0] if alike else ("odd", deed[0])
        first[deed[1]] = deed[0]
    return stands


def told_by_trying(stamps, deeds, lost, number):
    """The pages that ANY deeds done again lead to what they held behind a number."""
    held = begun({page: number for page in stamps}, deeds, [])
    found = set()
    begin = begun(stamps, deeds, lost)
    for many in range(len(deeds) + 1):
        for row in itertools.combinations(deeds, many):
            stands = done_again(begin, deeds, row)
            found |= {page for page in stamps if stands[page] == held[page]}
    return sorted(found)


def told_by_words(stamps, deeds, lost, number):
    """The pages that are told by the words of the document, whatever the stamps are."""
    spoilt = []
    for deed in deeds:
        for page in deed[2]:
            behind = [each for each in spoilt if each[1] == page and stamps[page] < each[0]]
            if deed not in spoilt and (page in lost or stamps[page] >= deed[0] or behind):
                spoilt.append(deed)
    return [page for page in sorted(stamps) if page not in lost and stamps[page] <= number
            and not [deed for deed in spoilt if deed[1] == page and stamps[page] < deed[0] <= number]]


def all_whys(stamps, deeds, lost, number, page):
    """ALL lists that tell why a page is not told."""
    if page in lost or stamps[page] > number:
        return [[]]
    found = []

    def go_on(row, written, below):
        for deed in deeds:
            if deed[1] == written and stamps[written] < deed[0] < below:
                for read in deed[2]:
                    late = row + [(deed[0], read)]
                    if read in lost or stamps[read] >= deed[0]:
                        found.append(late)
                    if read not in lost:
                        go_on(late, read, deed[0])

    go_on([], page, number + 1)
    return found


class OpenedTest(unittest.TestCase):
    def check(self, stamps, lines, ahead):
        deeds = committed_deeds(lines)
        newest = newest_of(lines, ahead)
        rows = lead_back(deeds, begun(stamps, deeds, []))
        error, told = outcome_of(opened, stamps, lines, ahead)
        if max(stamps.values(), default=0) > newest or rows == []:
            self.assertIsInstance(error, errors.Refused)
            self.assertIs(error.value, stamps)
        else:
            self.assertEqual(told, (newest, rows[0]))
            self.assertEqual(len(rows), 1)

    def test_small_chains_by_trying_all_lists_of_deeds_done_again(self):
        chance = random.Random(3)
        for _ in range(120):
            deeds = some_deeds(chance, chance.randint(0, 4), 3)
            lasts = [deed[0] for deed in deeds if chance.random() < 0.6]
            lines = chain_of(deeds, lasts)
            done = committed_deeds(lines)
            choices = {page: [0] for deed in done for page in deed[2]}
            for deed in done:
                choices[deed[1]].append(deed[0])
            for row in itertools.product(*choices.values()):
                self.check(dict(zip(choices, row)), lines, 0)

    def test_chains_that_begin_behind_elder_lines(self):
        deeds = [(11, 1, [1, 2], ()), (14, 2, [2], ())]
        for lines, ahead in [(chain_of(deeds, [11, 14], 9), 9), (chain_of(deeds, [11], 9), 9), (chain_of(deeds, [], 9), 9)]:
            for stamps in itertools.product([0, 3, 8, 9, 10, 11, 15], [0, 3, 8, 9, 10, 14, 15]):
                self.check({1: stamps[0], 2: stamps[1]}, lines, ahead)
        self.assertEqual(opened({1: 9, 2: 3, 7: 8}, chain_of(deeds, [11], 9), 9), (11, [11]))

    def test_a_chain_without_a_line_and_one_whose_commits_are_not_whole(self):
        self.assertEqual(opened({}, [], 0), (0, []))
        self.assertEqual(opened({2: 7, 1: 0}, [], 7), (7, []))
        deeds = [(8, 2, [2], ()), (9, 1, [1], ())]
        self.assertEqual(opened({2: 7, 1: 0}, chain_of(deeds, [], 7), 7), (7, []))
        self.assertEqual(opened({2: 7}, chain_of(deeds, [], 7), 7), (7, []))
        for stamps, lines, ahead in [({2: 8}, [], 7), ({2: 8, 1: 0}, chain_of(deeds, [], 7), 7), ({3: 1}, [], 0)]:
            with self.assertRaises(errors.Refused) as caught:
                opened(stamps, lines, ahead)
            self.assertIs(caught.exception.value, stamps)

    def test_the_number_that_the_first_line_names(self):
        lines = chain_of([(8, 2, [2], ())], [8], 7)
        for ahead in [0, 6, 8, True, None, -1, "7"]:
            with self.assertRaises(errors.InvalidCount) as caught:
                opened({2: 9}, lines, ahead)
            self.assertIs(caught.exception.value, ahead)
        self.assertEqual(opened({2: 0}, [], 5), (5, []))

    def test_mending_twice_is_as_good_as_once(self):
        deeds = [(1, 2, [2], ()), (2, 3, [2, 3], ()), (3, 2, [2], ()), (4, 3, [3], ())]
        lines = chain_of(deeds, [1, 3, 4])
        stands = {2: 0, 3: 0}
        newest, row = opened(stands, lines, 0)
        self.assertEqual(row, [1, 2, 3, 4])
        for many in range(len(row) + 1):
            stamps = dict(stands)
            for deed in deeds[:many]:
                stamps[deed[1]] = deed[0]
            self.assertEqual(opened({2: stamps[2], 3: stamps[3]}, lines, 0)[0], newest)


class ToldTest(unittest.TestCase):
    def check(self, stamps, lines, lost, number):
        deeds = committed_deeds(lines)
        told = self.check_whys(stamps, lines, lost, number)
        self.assertEqual(told, told_by_trying(stamps, deeds, lost, number), (stamps, lines, lost, number))

    def check_whys(self, stamps, lines, lost, number):
        deeds = committed_deeds(lines)
        told = told_pages(stamps, lines, lost, number)
        self.assertEqual(told, told_by_words(stamps, deeds, lost, number), (stamps, lines, lost, number))
        for page in stamps:
            why = why_untold(stamps, lines, lost, number, page)
            whys = all_whys(stamps, deeds, lost, number, page)
            self.assertEqual(whys == [], page in told)
            if page in told:
                self.assertIsNone(why)
            else:
                self.assertIn(why, whys)
                self.assertIs(is_why_untold(stamps, lines, lost, number, page, why), True)
        return told

    def test_two_deeds_by_trying_all(self):
        writes = [(page, reads) for page in [1, 2] for reads in [[page], [1, 2]]]
        for one, other in itertools.product(writes, repeat=2):
            lines = chain_of([(1, *one, ()), (2, *other, ())], [1, 2])
            for row in itertools.product([0, 1, 2], repeat=2):
                stamps = {1: row[0], 2: row[1]}
                if all(stamp in [0] + [line[0] for line in lines if line[3][1] == page] for page, stamp in stamps.items()):
                    for lost in [[], [1], [2], [1, 2]]:
                        for number in [0, 1, 2, 3]:
                            self.check(stamps, lines, lost, number)

    def test_greater_ones_by_chance(self):
        chance = random.Random(9)
        for _ in range(500):
            deeds = some_deeds(chance, chance.randint(1, 5), 3)
            lines = chain_of(deeds, [deed[0] for deed in deeds if chance.random() < 0.7])
            done = committed_deeds(lines)
            stamps = {}
            for page in range(4):
                stamps[page] = chance.choice([0] + [deed[0] for deed in done if deed[1] == page])
            lost = sorted(chance.sample(range(4), chance.choice([0, 0, 1, 1, 2, 4])))
            self.check(stamps, lines, lost, chance.randint(0, 9))

    def test_stamps_whatever_they_are(self):
        # Also stamps of no deed on their page, in whatever order the dictionary has them.
        chance = random.Random(16)
        for _ in range(1500):
            deeds = some_deeds(chance, chance.randint(1, 7), 5)
            lines = chain_of(deeds, [deed[0] for deed in deeds if chance.random() < 0.9])
            pages = chance.sample(range(6), 6)
            stamps = {page: chance.choice([0, 0, 0, chance.randint(0, 12)]) for page in pages}
            lost = sorted(chance.sample(range(6), chance.choice([0, 1, 1, 2])))
            number = chance.randint(0, 12)
            self.check_whys(stamps, lines, lost, number)
            page = chance.choice(pages)
            if page in told_by_words(stamps, committed_deeds(lines), [], number):
                wanted = [each for each in sorted(pages)
                          if page not in told_by_words(stamps, committed_deeds(lines), [each], number)]
                self.assertEqual(losses(stamps, lines, number, page), wanted)

    def test_a_stamp_that_is_a_deeds_number_on_another_page(self):
        lines = chain_of([(1, 1, [1, 2], ()), (2, 3, [3], ())], [1, 2])
        self.assertEqual(told_pages({1: 0, 2: 1, 3: 0}, lines, [], 2), [2, 3])
        self.assertEqual(why_untold({1: 0, 2: 1, 3: 0}, lines, [], 2, 1), [(1, 2)])
        with self.assertRaises(errors.Refused):
            opened({1: 0, 2: 1, 3: 0}, lines, 0)
        self.assertEqual(opened({1: 1, 2: 1, 3: 0}, lines, 0), (2, [2]))

    def test_a_row_through_the_deeds_that_matter(self):
        deeds = [(1, 3, [3, 4], ()), (2, 1, [1, 5], ()), (3, 1, [1], ()), (4, 2, [1, 2], ()), (5, 2, [2], ())]
        lines = chain_of(deeds, [5])
        stamps = {page: 0 for page in [5, 4, 3, 2, 1]}
        self.assertIn(why_untold(stamps, lines, [4, 5], 5, 2), all_whys(stamps, deeds, [4, 5], 5, 2))
        self.assertIsNone(why_untold(stamps, lines, [4], 5, 2))
        self.assertEqual(why_untold(stamps, lines, [4], 5, 3), [(1, 4)])
        self.assertEqual(told_pages(stamps, lines, [4], 5), [1, 2, 5])
        self.assertEqual(losses(stamps, lines, 5, 2), [1, 2, 5])

    def test_no_lost_page_and_right_stamps_tell_all(self):
        chance = random.Random(10)
        for _ in range(200):
            deeds = some_deeds(chance, chance.randint(0, 6), 3)
            lines = chain_of(deeds, [deed[0] for deed in deeds])
            number = deeds[-1][0] if deeds else 0
            behind = chance.choice([0] + [deed[0] for deed in deeds])
            stamps = {page: max([0] + [deed[0] for deed in deeds if deed[1] == page and deed[0] <= behind])
                      for page in range(3)}
            self.assertEqual(told_pages(stamps, lines, [], number), [0, 1, 2])
            self.assertEqual(told_pages(stamps, lines, [0, 1, 2], number), [])

    def test_the_beginning_and_stamps_above_the_last_line(self):
        lines = chain_of([(5, 1, [1, 2], ()), (6, 2, [2], ())], [5, 6], 4)
        self.assertEqual(told_pages({1: 0, 2: 3, 8: 2}, lines, [], 6), [1, 2, 8])
        self.assertEqual(told_pages({1: 4, 2: 4, 8: 4}, lines, [], 2), [])
        self.assertEqual(told_pages({1: 4, 2: 2, 8: 3}, lines, [], 3), [2, 8])
        self.assertEqual(told_pages({1: 4, 2: 4, 8: 4}, lines, [], 4), [1, 2, 8])
        self.assertEqual(told_pages({1: 4, 2: 6, 8: 4}, lines, [], 6), [2, 8])
        self.assertEqual(told_pages({1: 9, 2: 9, 8: 7}, lines, [], 6), [])
        self.assertEqual(told_pages({1: 9, 2: 9, 8: 7}, lines, [1], 9), [2, 8])
        self.assertEqual(told_pages({1: 0}, [], [], 0), [1])
        self.assertEqual(told_pages({}, [], [], 7), [])

    def test_deeds_that_are_not_committed_tell_nothing(self):
        lines = chain_of([(1, 1, [1], ()), (2, 2, [1, 2], ())], [1])
        self.assertEqual(told_pages({1: 0}, lines, [], 2), [1])
        self.assertEqual(told_pages({1: 0, 2: 0}, lines, [1], 2), [2])
        self.assertIs(is_why_untold({1: 0, 2: 0}, lines, [1], 2, 2, [(2, 1)]), False)

    def test_judges_of_why_untold_by_all_lists(self):
        chance = random.Random(12)
        deeds = [(1, 1, [1, 2], ()), (2, 2, [1, 2], ()), (3, 3, [2, 3], ()), (4, 1, [1, 3], ())]
        lines = chain_of(deeds, [4])
        parts = [(number, page) for number in range(6) for page in range(1, 4)]
        rows = [list(row) for many in range(4) for row in itertools.product(parts[:15], repeat=many) if many < 3]
        rows += [[chance.choice(parts) for _ in range(chance.randint(3, 5))] for _ in range(800)]
        for stamps, lost in [({1: 0, 2: 0, 3: 0}, [2]), ({1: 0, 2: 2, 3: 0}, []), ({1: 4, 2: 0, 3: 0}, []),
                             ({1: 1, 2: 0, 3: 3}, [1, 2]), ({1: 0, 2: 0, 3: 0}, [])]:
            for number in [0, 2, 3, 4]:
                for page in [1, 2, 3]:
                    whys = all_whys(stamps, deeds, lost, number, page)
                    for row in rows + whys:
                        told = is_why_untold(stamps, lines, lost, number, page, row)
                        self.assertIs(told, row in whys, (stamps, lost, number, page, row))

    def test_judges_of_why_untold_tell_false_of_other_kinds(self):
        lines = chain_of([(1, 1, [1, 2], ())], [1])
        good = [(1, 2)]
        self.assertIs(is_why_untold({1: 0, 2: 0}, lines, [2], 1, 1, good), True)
        for odd in [(), ((1, 2),), [[1, 2]], [(True, 2)], [(1, 2, 0)], [(1, 2), ()], [(1, "2")], [1, 2], [None], {1: 2},
                    [(1, [2])], [(1, 9)], [(9, 2)]] + odd_objects():
            self.assertIs(is_why_untold({1: 0, 2: 0}, lines, [2], 1, 1, odd), False)
        for odd in odd_objects():
            self.assertIs(is_why_untold({1: 0, 2: 0}, lines, [1], 1, 1, odd), type(odd) is list and odd == [])


class LossesTest(unittest.TestCase):
    def test_losses_by_trying_all_lots_of_lost_pages(self):
        chance = random.Random(14)
        for _ in range(150):
            deeds = some_deeds(chance, chance.randint(0, 5), 3)
            lines = chain_of(deeds, [deed[0] for deed in deeds if chance.random() < 0.7])
            done = committed_deeds(lines)
            stamps = {page: chance.choice([0] + [deed[0] for deed in done if deed[1] == page]) for page in range(4)}
            number = chance.randint(0, 9)
            lots = [list(row) for many in range(5) for row in itertools.combinations(range(4), many)]
            for page in stamps:
                keeping = losses(stamps, lines, number, page)
                if page not in told_pages(stamps, lines, [], number):
                    self.assertIsNone(keeping)
                    continue
                self.assertIn(page, keeping)
                self.assertEqual(keeping, sorted(keeping))
                for lot in lots:
                    told = page in told_pages(stamps, lines, lot, number)
                    self.assertEqual(told, not any(lost in keeping for lost in lot))

    def test_greatest_told_by_trying_each_number(self):
        chance = random.Random(15)
        for _ in range(300):
            deeds = some_deeds(chance, chance.randint(0, 5), 3)
            beginning = 0 if not deeds else chance.randint(0, deeds[0][0] - 1)
            lines = chain_of(deeds, [deed[0] for deed in deeds if chance.random() < 0.6], beginning)
            done = committed_deeds(lines)
            stamps = {page: chance.choice([0, 7] + [deed[0] for deed in done if deed[1] == page]) for page in range(4)}
            lost = sorted(chance.sample(range(4), chance.choice([0, 0, 1, 2])))
            pages = sorted(chance.sample(range(4), chance.randint(0, 3)))
            numbers = [line[0] for line in lines if line[2]] + [lines[0][1] if lines else 0]
            fine = [number for number in numbers if set(pages) <= set(told_pages(stamps, lines, lost, number))]
            self.assertEqual(greatest_told(stamps, lines, lost, pages), max(fine, default=None))

    def test_the_beginning_is_told_where_nothing_later_is(self):
        lines = chain_of([(5, 1, [1, 2], ())], [5], 4)
        self.assertEqual(greatest_told({1: 4, 2: 4}, lines, [2], [1]), 4)
        self.assertEqual(greatest_told({1: 4, 2: 4}, lines, [2], []), 5)
        self.assertIsNone(greatest_told({1: 4, 2: 4}, lines, [2], [1, 2]))
        self.assertEqual(greatest_told({1: 4, 2: 4}, lines[:0], [], [1]), None)
        self.assertEqual(greatest_told({1: 0, 2: 4}, [], [], [1]), 0)
        self.assertEqual(greatest_told({}, [], [], []), 0)

    def test_lines_told(self):
        deeds = [(5, 1, [1, 2], ()), (6, 2, [2], ()), (8, 1, [1], ())]
        for lasts, many, newest in [([5, 6, 8], 3, 8), ([5, 6, 8], 2, 6), ([6], 3, 6), ([], 3, 4), ([8], 2, 4), ([5], 0, 0)]:
            lines = chain_of(deeds, lasts, 4)[:many]
            for row in itertools.product([0, 4, 5, 6, 7, 8, 9], repeat=2):
                stamps = {2: row[1], 1: row[0]}
                told = lines_told(stamps, lines)
                self.assertEqual(told, ([page for page in [1, 2] if stamps[page] <= newest],
                                        [page for page in [1, 2] if stamps[page] > newest]))
        self.assertEqual(lines_told({}, []), ([], []))


class OrderTest(unittest.TestCase):
    def test_stamps_then_lines_then_what_the_stamps_lack(self):
        lines = chain_of([(1, 1, [1, 2], ()), (2, 3, [3], ())], [1])
        late = [({1: True}, None, errors.InvalidStamps, 0), ({1: 0, 2: 0}, None, errors.InvalidChain, 1),
                ({1: 0}, lines, errors.InvalidStamps, 0), ({1: 0}, (), errors.InvalidChain, 1)]
        for stamps, chain, wanted, at in late:
            for function, rest in [(opened, [None]), (told_pages, [None, None]), (why_untold, [None, None, None]),
                                   (is_why_untold, [None, None, None, []]), (losses, [None, None]),
                                   (greatest_told, [None, None]), (lines_told, [])]:
                error, told = outcome_of(function, stamps, chain, *rest)
                self.assertIs(error.__class__, wanted)
                self.assertIs(error.value, [stamps, chain][at])
        self.assertEqual(lines_told({1: 0, 2: 0}, lines), ([1, 2], []))

    def test_lost_pages_numbers_and_pages(self):
        lines = chain_of([(1, 1, [1, 2], ())], [1])
        stamps = {1: 0, 2: 0}
        for odd in odd_objects():
            fits = type(odd) is list and all(is_count(page) and page in stamps for page in odd) and sorted(set(odd)) == odd
            error, told = outcome_of(told_pages, stamps, lines, odd, 1)
            self.assertEqual(error is None, fits)
            if not fits:
                self.assertIs(error.__class__, errors.InvalidPage)
                self.assertIs(error.value, odd)


if __name__ == "__main__":
    unittest.main()
