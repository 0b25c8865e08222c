"""Promises [21] to [25]: page texts in cells of a disc."""

import random
import unittest

from tests.support import GREAT, ascend_below, is_cells, is_count, odd_objects, outcome_of, shape, spoil
from weavestore import errors
from weavestore.disc import Disc, fall, picture_at
from weavestore.lines import Line, agreeing, number_of, page_of, read_line
from weavestore.pages import agreement, is_whole, mending, number_text, off_cells, page_cells, page_line, page_writes
from weavestore.pages import shown, text_number

SIGNS = " -,.:;<=>()+*/?!0123456789abcdefghijklmnopqrstuvwxyz"
FIVE = [shown, is_whole, off_cells, mending, agreement]


def contents(text):
    return [content for cell, content in page_writes(0, text)]


def some_text(chance):
    return "".join(chance.choice(SIGNS) for _ in range(chance.randrange(121)))


class PagesTest(unittest.TestCase):
    def test_21_texts_and_numbers(self):
        self.assertEqual(len(SIGNS), 52)
        for text in ["", " ", "z", "  ", SIGNS, SIGNS[::-1], " " * 120, "z" * 120]:
            number = sum((SIGNS.index(sign) + 1) * 53**at for at, sign in enumerate(text))
            self.assertEqual(text_number(text), number)
            self.assertEqual(number_text(number), text)
        for text in ["z" * 121, "A", "a\n", "\t", "%", "~", b"a", None, 5, ["a"], ("a",)]:
            error, _ = outcome_of(text_number, text)
            self.assertIs(error.__class__, errors.InvalidText)
            self.assertIs(error.value, text)

    def test_21_numbers_of_no_text(self):
        beyond = [sum(digit * 53**at for at in range(121)) for digit in (1, 52)]
        self.assertEqual(number_text(beyond[0] - 53**120), " " * 120)
        for number in [53, 53 * 7, 53**2 + 5, 53**120, 53**120 + 1, 10**400, -1, True, None, "ab", [1]] + beyond:
            error, _ = outcome_of(number_text, number)
            self.assertIs(error.__class__, errors.InvalidPage)
            self.assertIs(error.value, number)
        told = {}
        for number in range(3000):
            error, text = outcome_of(number_text, number)
            digits = [number, number % 53, number // 53 % 53, number // 2809]
            if number == 0 or digits[1] > 0 and (digits[2] > 0 or number < 53):
                self.assertEqual(text_number(text), number)
                told[text] = number
            else:
                self.assertIs(error.__class__, errors.InvalidPage)
        self.assertEqual(len(told), 1 + 52 + 52 * 52 + 135)

    def test_21_the_line(self):
        self.assertTrue(page_line() == Line(2305843009213693951, 61, 16))
        self.assertEqual(2305843009213693951, GREAT)

    def test_22_cells_and_writes(self):
        for place in [0, 1, 11, 10**20]:
            self.assertEqual(page_cells(place), [61 * place + at for at in range(61)])
            signs = page_of(page_line(), text_number("ann 7"))
            wanted = [(61 * place + at, (0, sign)) for at, sign in enumerate(signs)]
            self.assertEqual(page_writes(place, "ann 7"), wanted)
        self.assertEqual({content for cell, content in page_writes(0, "")}, {(0, 0)})
        self.assertEqual({content for cell, content in page_writes(0, "a")}, {(0, 27)})

    def test_23_whole_pages_are_shown(self):
        chance = random.Random(1)
        for _ in range(12):
            text = some_text(chance)
            picture = [None] * 61 + contents(text) + [(5, 5)]
            self.assertEqual(shown(picture, 1), text)
            self.assertIs(is_whole(picture, 1), True)
            self.assertEqual((off_cells(picture, 1), mending(picture, 1), agreement(picture, 1)), ([], [], 61))
            self.assertIsNone(shown(picture, 0))

    def test_23_the_old_or_the_new_text_of_every_fall(self):
        chance = random.Random(2)
        for _ in range(25):
            old, new = some_text(chance), some_text(chance)
            disc = Disc(122)
            for cell, content in page_writes(1, old):
                disc.write(cell, content)
            disc.barrier()
            for cell, content in page_writes(1, new)[: chance.randrange(62)]:
                disc.write(cell, content)
            picture = [chance.choice([one, other]) for one, other in zip(disc.standing(), disc.newest())]
            late = fall(disc, picture).standing()
            near = read_line(page_line(), [sign for stamp, sign in late[61:]], 0, 0)
            self.assertTrue(set(near) <= {text_number(old), text_number(new)})
            self.assertEqual(shown(late, 1), number_text(near[0]))
            self.assertEqual(off_cells(late, 1), [cell for cell, content in page_writes(1, shown(late, 1))
                                                  if late[cell] != content])
            self.assertEqual(agreement(late, 1), 61 - len(off_cells(late, 1)))
            self.assertIs(is_whole(late, 1), off_cells(late, 1) == [])

    def test_23_the_text_with_the_least_number_if_two_are_near(self):
        # Two pages that agree in a cell: their numbers differ by a digit times (x - 1).
        line = page_line()
        texts = self.two_that_agree()
        picture = [content if at < 31 else late for at, (content, late) in enumerate(zip(*map(contents, texts)))]
        near = read_line(line, [sign for stamp, sign in picture], 0, 0)
        self.assertEqual(near, sorted(map(text_number, texts)))
        self.assertEqual(shown(picture, 0), number_text(near[0]))
        turned = [late if at < 31 else content for at, (content, late) in enumerate(zip(*map(contents, texts)))]
        self.assertEqual(shown(turned, 0), number_text(near[0]))

    def two_that_agree(self):
        """Two texts whose pages agree in the first cell: told by the sums of the digits."""
        line = page_line()
        base = text_number("m" * 100)
        digits = [base // GREAT**at % GREAT for at in range(16)]
        for step in range(1, 5000):
            number = base + step - step * GREAT
            error, text = outcome_of(number_text, number)
            if error is None and digits[0] + step < GREAT and digits[1] >= step:
                self.assertEqual(page_of(line, number)[0], page_of(line, base)[0])
                return number_text(base), text
        raise AssertionError("no such text")

    def test_23_cells_with_nothing(self):
        old = contents("ann 7")
        for at in [0, 17, 60]:
            picture = list(old)
            picture[at] = None
            self.assertIsNone(shown(picture, 0))
            self.assertIs(is_whole(picture, 0), False)
            self.assertEqual((off_cells(picture, 0), mending(picture, 0), agreement(picture, 0)), ([], [], 0))
            picture[at - 1] = (3, 0)
            self.assertIsNone(shown(picture, 0))
        self.assertIsNone(shown([None] * 61, 0))

    def test_23_refused_for_stamps_and_for_pages_of_no_text(self):
        stamped = contents("ann 7")
        stamped[60] = (1, stamped[60][1])
        no_text = [(0, sign) for sign in page_of(page_line(), 53)]
        beyond = [(0, sign) for sign in page_of(page_line(), GREAT**16 - 1)]
        for picture in [stamped, no_text, beyond]:
            for told in [shown, off_cells, mending, agreement]:
                error, _ = outcome_of(told, picture + [None], 0)
                self.assertEqual((error.__class__, error.value), (errors.Refused, 0))
            self.assertIs(is_whole(picture, 0), False)
        mixed = contents("ann 7")[:20] + no_text[20:]
        self.assertIs(outcome_of(shown, mixed, 0)[0].__class__, errors.Refused)
        mixed = contents("ann 7")[:40] + no_text[40:]
        self.assertEqual(shown(mixed, 0), "ann 7")

    def test_23_up_to_15_changed_cells_of_a_whole_page_change_nothing(self):
        chance = random.Random(3)
        for many in [1, 7, 14, 15]:
            text = some_text(chance)
            picture = contents(text)
            cells = sorted(chance.sample(range(61), many))
            for cell in cells:
                picture[cell] = (0, (picture[cell][1] + 1 + chance.randrange(GREAT - 1)) % GREAT)
            self.assertEqual(shown(picture, 0), text)
            self.assertEqual(off_cells(picture, 0), cells)
            self.assertEqual(agreement(picture, 0), 61 - many)
            self.assertGreaterEqual(agreement(picture, 0), 46)
            self.assertIs(is_whole(picture, 0), False)
            self.assertEqual(mending(picture, 0), [(cell, contents(text)[cell]) for cell in cells])

    def test_23_old_cells_of_15_of_another_page(self):
        old, new = contents("ann 7"), contents("bob 9")
        self.assertEqual(shown(old[:15] + new[15:], 0), "bob 9")
        self.assertEqual(shown(old[:46] + new[46:], 0), "ann 7")

    def test_24_mending_cut_anywhere(self):
        chance = random.Random(4)
        for _ in range(4):
            old, new = contents(some_text(chance)), contents(some_text(chance))
            picture = [None] * 61 + [chance.choice(two) for two in zip(old, new)]
            text = shown(picture, 1)
            writes = mending(picture, 1)
            for cut in sorted(chance.sample(range(len(writes) + 1), 4)) + [len(writes)]:
                late = list(picture)
                for cell, content in chance.sample(writes, cut):
                    late[cell] = content
                self.assertEqual(shown(late, 1), text)
                self.assertEqual(len(mending(late, 1)), len(writes) - cut)
            self.assertTrue(is_whole(late, 1))

    def test_25_agreement_of_both(self):
        old, new = "ann 7 bob 9", "ann 8 bob 9 cid 1"
        for many in [20, 30, 31, 40]:
            picture = contents(old)[:many] + contents(new)[many:]
            page = page_line()
            wanted = agreeing(page, text_number(shown(picture, 0)), [sign for stamp, sign in picture])
            self.assertEqual(agreement(picture, 0), wanted)

    def test_wrong_pictures_and_places(self):
        whole = contents("ann 7") * 2
        for told in FIVE:
            for odd in odd_objects():
                error, _ = outcome_of(told, odd, None)
                wanted = errors.InvalidPage if is_cells(odd) else errors.InvalidDisc
                self.assertIs(error.__class__, wanted)
                self.assertIs(error.value, None if is_cells(odd) else odd)
                error, _ = outcome_of(told, whole, odd)
                if is_count(odd) and odd <= 1:
                    self.assertIsNone(error)
                else:
                    self.assertIs(error.__class__, errors.InvalidPage)
                    self.assertIs(error.value, odd)
            for wrong in [whole + [(0, GREAT)], whole + [0], whole + [False], tuple(whole), whole + [[0, 1]]]:
                error, _ = outcome_of(told, wrong, "x")
                self.assertIs(error.__class__, errors.InvalidDisc)
                self.assertIs(error.value, wrong)
            self.assertIs(outcome_of(told, whole[:60], 0)[0].__class__, errors.InvalidPage)
            self.assertIs(outcome_of(told, whole[:121], 1)[0].__class__, errors.InvalidPage)
            self.assertIs(outcome_of(told, [], 0)[0].__class__, errors.InvalidPage)
            self.assertIsNone(outcome_of(told, whole[:61], 0)[0])

    def test_what_is_passed_and_returned(self):
        picture = contents("ann 7")[:50] + contents("bob 9")[50:]
        before = shape(picture)
        for told in FIVE:
            first = told(picture, 0)
            wanted = shape(first)
            spoil(first)
            self.assertEqual(shape(told(picture=picture, place=0)), wanted)
            self.assertEqual(shape(picture), before)
        self.assertEqual(len(off_cells(picture, 0)), 11)
        for cell in range(50, 61):
            picture[cell] = contents("ann 7")[cell]
        self.assertEqual((off_cells(picture, 0), is_whole(picture, 0)), ([], True))
        picture[:] = contents("bob 9")
        self.assertEqual(shown(picture, 0), "bob 9")

    def test_a_disc_that_was_never_written(self):
        disc = Disc(61)
        for cell, content in page_writes(0, "ann 7"):
            disc.write(cell, content)
        self.assertIsNone(shown(picture_at(disc, 0), 0))
        self.assertEqual(shown(picture_at(disc, 2**61 - 1), 0), "ann 7")
        self.assertEqual(number_of(page_line(), [sign for stamp, sign in disc.newest()]), text_number("ann 7"))
        self.assertTrue(ascend_below(page_cells(0), 61))


if __name__ == "__main__":
    unittest.main()
