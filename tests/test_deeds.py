"""Promises [32] to [37]: deeds, stamps, what is done again."""

import itertools
import random
import unittest

from tests.support import all_stamps, are_right as plain_right, bent, choices_of, is_deed as plain_deed, lead_back
from tests.support import newest_of, odd_objects, outcome_of, shape, some_deeds, unordered
from weavestore import errors
from weavestore.deeds import all_mixes_right, are_deeds, are_right, are_stamps, is_deed, is_why_wrong, is_wrong_mix
from weavestore.deeds import newest_right, next_right, redone, stamps_behind, stamps_read, walked, why_wrong, wrong_mix

DEEDS = [(1, 2, [2], ("put",)), (2, 3, [2, 3], ("copy",)), (3, 2, [2], ("trim",)), (4, 3, [3], ("put",))]


def some_cases(seed, many, most=5):
    chance = random.Random(seed)
    return [some_deeds(chance, chance.randint(0, most), chance.randint(1, 3)) for _ in range(many)]


def below(one, other):
    return all(stamp <= other[page] for page, stamp in one.items())


def nested(depth):
    words = ()
    for _ in range(depth):
        words = (words, "deep", None, 7)
    return words


class DeedsTest(unittest.TestCase):
    def test_32_deeds(self):
        for good in [(1, 0, [0], ()), (10**30, 5, [0, 5, 9], ("a", "abcdefgh", 0, None, (), ((), (1,)))),
                     (1, 0, [0], nested(40)), (2, 10**20, [10**20], (10**30,))]:
            self.assertIs(is_deed(good), True)
        wrong = [
            (0, 0, [0], ()), (1, 0, [1], ()), (1, 0, [], ()), (1, 0, (0,), ()), (1, 0, [0], []), [1, 0, [0], ()], (1, 0, [0]),
            (1, 0, [0], (), ()), (True, 0, [0], ()), (1, False, [0], ()), (1, 0, [False], ()), (1, 0, [1, 0], ()),
            (1, 0, [0, 0], ()), (1, 0, [0, -1], ()), (1, 0, [0], ("",)), (1, 0, [0], ("abcdefghi",)), (1, 0, [0], ("A",)),
            (1, 0, [0], ("a b",)), (1, 0, [0], ("a1",)), (1, 0, [0], (-1,)), (1, 0, [0], (True,)), (1, 0, [0], ([],)),
            (1, 0, [0], (((False,),),)), (1, 0, [0], ({},)), (1, 0, [0], "put"), (1, 0, [0], None), (1, 0, {0: 0}, ()),
        ]
        for value in wrong:
            self.assertIs(is_deed(value), False, value)
        for value in odd_objects() + list(bent(DEEDS[1])) + list(bent((7, 0, [0, 3], ("a", (None, 4))))):
            self.assertIs(is_deed(value), plain_deed(value), value)

    def test_32_lists_of_deeds(self):
        self.assertIs(are_deeds([]), True)
        self.assertIs(are_deeds(DEEDS), True)
        for value in [DEEDS[::-1], DEEDS + DEEDS[-1:], tuple(DEEDS), DEEDS + [None], [DEEDS], None, DEEDS[0]]:
            self.assertIs(are_deeds(value), False)

    def test_33_stamps_behind(self):
        for deeds in some_cases(1, 60):
            for number in range(12):
                wanted = {}
                for page in choices_of(deeds):
                    wanted[page] = max([deed[0] for deed in deeds if deed[1] == page and deed[0] <= number], default=0)
                self.assertEqual(shape(stamps_behind(deeds, number)), shape(wanted))
            self.assertEqual(stamps_behind(deeds, 10**30), newest_of(deeds))
        self.assertEqual(stamps_behind([], 5), {})
        late_page = [(1, 9, [9], ()), (2, 1, [1, 4], ())]
        self.assertEqual(list(stamps_behind(late_page, 1).items()), [(1, 0), (4, 0), (9, 1)])

    def test_33_stamps_read(self):
        for deeds in some_cases(2, 60):
            for deed in deeds:
                ahead = stamps_behind(deeds, deed[0] - 1)
                self.assertEqual(shape(stamps_read(deeds, deed[0])), shape({page: ahead[page] for page in deed[2]}))
            for number in range(13):
                if number not in [deed[0] for deed in deeds]:
                    error, _ = outcome_of(stamps_read, deeds, number)
                    self.assertEqual((error.__class__, error.value), (errors.InvalidDeed, number))
        for number in [-1, True, None, "1"]:
            error, _ = outcome_of(stamps_read, DEEDS, number)
            self.assertIs(error.__class__, errors.InvalidCount)

    def test_33_stamps(self):
        for deeds in some_cases(3, 40):
            every = [unordered(stamps) for stamps in all_stamps(deeds)]
            pages = list(choices_of(deeds))
            for row in itertools.product(range(8), repeat=len(pages)):
                value = dict(zip(reversed(pages), row))
                self.assertIs(are_stamps(deeds, value), unordered(value) in every)
            for value in list(bent(newest_of(deeds))) + odd_objects():
                self.assertIs(are_stamps(deeds, value), unordered(value) in every, (deeds, value))
        self.assertIs(are_stamps([], {}), True)
        self.assertIs(are_stamps([], []), False)
        one = [(1, 1, [1], ())]
        self.assertTrue(are_stamps(one, {1: 1}) and are_stamps(one, {1: 0}))
        for value in [{True: 1}, {1: True}, {1: False}, {1: 2}, {}, {1: 0, 2: 0}, {2: 0}]:
            self.assertIs(are_stamps(one, value), False)

    def test_34_walked(self):
        for deeds in some_cases(4, 30, 4):
            numbers = [deed[0] for deed in deeds]
            for stamps in all_stamps(deeds):
                for many in range(len(deeds) + 1):
                    for row in itertools.combinations(numbers, many):
                        self.assertEqual(shape(walked(deeds, stamps, list(row))), shape(self.walk(deeds, stamps, row)))

    def walk(self, deeds, stamps, row):
        """By the words of [34]."""
        stands = {page: stamps[page] for page in sorted(stamps)}
        for number, page, reads, words in deeds:
            if number in row:
                first = {each: max([0] + [deed[0] for deed in deeds if deed[1] == each and deed[0] < number])
                         for each in reads}
                alike = first == {each: stands[each] for each in reads}
                stands[page] = number if alike else ("odd", number)
        return stands

    def test_34_numbers_that_are_no_deeds(self):
        for numbers in [[5], [2, 1], [1, 1], [True], (1,), None, 1, [0], [[1]]]:
            error, _ = outcome_of(walked, DEEDS, {2: 0, 3: 0}, numbers)
            self.assertIs(error.__class__, errors.InvalidDeeds)
            self.assertIs(error.value, numbers)
        self.assertEqual(walked(DEEDS, {3: 2, 2: 1}, []), {2: 1, 3: 2})

    def test_35_right_stamps_and_the_only_list(self):
        told = set()
        for deeds in some_cases(5, 60):
            for stamps in all_stamps(deeds):
                rows = lead_back(deeds, stamps)
                told.add(len(rows))
                self.assertIs(are_right(deeds, stamps), rows != [])
                self.assertEqual(redone(deeds, stamps), rows[0] if rows else None)
                self.assertIs(why_wrong(deeds, stamps) is None, rows != [])
                reasons = [(deed[0], page) for deed in deeds for page in deed[2]
                           if stamps[deed[1]] < deed[0] <= stamps[page]]
                self.assertIs(rows == [], reasons != [])
                for value in itertools.product(range(12), range(4)):
                    self.assertIs(is_why_wrong(deeds, stamps, value), value in reasons)
                if reasons:
                    self.assertIn(why_wrong(deeds, stamps), reasons)
                    self.assertIs(is_why_wrong(deeds, stamps, why_wrong(deeds, stamps)), True)
        self.assertEqual(told, {0, 1})

    def test_35_the_judge_of_reasons(self):
        deeds = [(1, 0, [0, 1], ()), (2, 1, [1], ())]
        self.assertEqual(why_wrong(deeds, {0: 0, 1: 2}), (1, 1))
        for value in bent((1, 1)):
            self.assertIs(is_why_wrong(deeds, {0: 0, 1: 2}, value), shape(value) == shape((1, 1)))
        self.assertIs(is_why_wrong(deeds, {0: 0, 1: 0}, None), False)

    def test_35_the_stamps_of_nothing_and_of_all(self):
        for deeds in some_cases(6, 30):
            nought = {page: 0 for page in choices_of(deeds)}
            self.assertEqual(redone(deeds, nought), [deed[0] for deed in deeds])
            self.assertEqual(redone(deeds, newest_of(deeds)), [])

    def test_36_newer_and_elder_ones_of_right_stamps(self):
        for deeds in some_cases(7, 25):
            right = [stamps for stamps in all_stamps(deeds) if are_right(deeds, stamps)]
            for one, other in itertools.product(right, repeat=2):
                self.assertTrue(are_right(deeds, {page: max(one[page], other[page]) for page in one}))
                self.assertTrue(are_right(deeds, {page: min(one[page], other[page]) for page in one}))

    def test_36_the_greatest_and_the_least_by_trying_all(self):
        for deeds in some_cases(8, 60):
            right = [stamps for stamps in all_stamps(deeds) if plain_right(deeds, stamps)]
            for stamps in all_stamps(deeds):
                elder = [each for each in right if below(each, stamps)]
                newer = [each for each in right if below(stamps, each)]
                told, late = newest_right(deeds, stamps), next_right(deeds, stamps)
                self.assertTrue(told in elder and all(below(each, told) for each in elder))
                self.assertTrue(late in newer and all(below(late, each) for each in newer))
                self.assertEqual((list(told), list(late)), (sorted(told), sorted(late)))

    def test_37_mixes_by_trying_all(self):
        told = set()
        for deeds in some_cases(9, 40, 4):
            every = all_stamps(deeds)
            for one, other in itertools.product(every, repeat=2):
                if not below(one, other):
                    error, _ = outcome_of(all_mixes_right, deeds, one, other)
                    self.assertEqual((error.__class__, error.value), (errors.InvalidStamps, other))
                    continue
                mixes = [dict(zip(one, row)) for row in itertools.product(*zip(one.values(), other.values()))]
                wrong = [mix for mix in mixes if not plain_right(deeds, mix)]
                told.add(wrong == [])
                self.assertIs(all_mixes_right(deeds, one, other), wrong == [])
                mix = wrong_mix(deeds, one, other)
                if wrong:
                    self.assertIn(mix, wrong)
                    self.assertEqual(list(mix), sorted(mix))
                else:
                    self.assertIsNone(mix)
                for value in every:
                    self.assertIs(is_wrong_mix(deeds, one, other, value), value in wrong)
                self.assertIs(is_wrong_mix(deeds, one, other, mix), mix is not None)
        self.assertEqual(told, {True, False})

    def test_37_the_judge_of_mixes(self):
        deeds = [(1, 0, [0, 1], ()), (2, 1, [1], ())]
        mix = wrong_mix(deeds, {0: 0, 1: 0}, {0: 1, 1: 2})
        self.assertEqual(mix, {0: 0, 1: 2})
        for value in bent(mix):
            self.assertIs(is_wrong_mix(deeds, {0: 0, 1: 0}, {0: 1, 1: 2}, value), unordered(value) == unordered(mix))
        self.assertIs(is_wrong_mix(deeds, {0: 0, 1: 0}, {0: 1, 1: 0}, mix), False)
        self.assertIs(is_wrong_mix(deeds, {0: 1, 1: 0}, {0: 1, 1: 0}, None), False)

    def test_the_order_of_keys_means_nothing(self):
        self.assertEqual(list(newest_right(DEEDS, {3: 0, 2: 3}).items()), [(2, 1), (3, 0)])
        self.assertEqual(list(walked(DEEDS, {3: 0, 2: 0}, [1]).items()), [(2, 1), (3, 0)])

    def test_a_log_of_40_lines(self):
        deeds = some_deeds(random.Random(10), 40, 8)
        nought = {page: 0 for page in newest_of(deeds)}
        self.assertEqual(len(redone(deeds, nought)), 40)
        half = stamps_behind(deeds, deeds[19][0])
        self.assertEqual(redone(deeds, half), [deed[0] for deed in deeds[20:]])
        self.assertEqual((newest_right(deeds, half), next_right(deeds, half)), (half, half))
        mixed = {page: newest_of(deeds)[page] if page % 2 else 0 for page in nought}
        self.assertTrue(are_right(deeds, newest_right(deeds, mixed)) and are_right(deeds, next_right(deeds, mixed)))

    def test_deeds_changed_between_two_calls(self):
        deeds, stamps = list(DEEDS), {2: 3, 3: 0}
        self.assertIs(are_right(deeds, stamps), False)
        stamps[2] = 1
        self.assertEqual(redone(deeds, stamps), [2, 3, 4])
        deeds.pop()
        self.assertEqual(redone(deeds, stamps), [2, 3])
        deeds[1][2].append(7)
        self.assertIs(are_stamps(deeds, stamps), False)
        deeds[1][2].pop()


if __name__ == "__main__":
    unittest.main()
