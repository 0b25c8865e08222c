"""Promises [43] to [48]: deeds as texts, lines as twenty cells, the chain of a ring of places."""

import itertools
import random
import unittest

from tests import plainlog
from tests.support import GREAT, errors, is_deed, odd_objects, shape, spoil
from weavestore.chain import chain, committed, deed_by, deed_text, ghosts, line_at, line_cells, next_number, next_place

EMPTY = [None] * 20


def deed_of_length(number, many):
    """A deed whose text has just so many signs."""
    words = []
    left = many - len("2 2 ()")
    while left > 0:
        take = min(left, 8) if not words else min(left - 1, 8)
        if words and left - 1 - take == 1:
            take -= 1
        words.append("a" * take)
        left -= take + (1 if len(words) > 1 else 0)
    return (number, 2, [2], tuple(words))


def some_words(chance, depth):
    choices = ["put", "a", None, 0, 7, 10**9, ()]
    return tuple(
        some_words(chance, depth - 1) if depth and chance.random() < 0.4 else chance.choice(choices)
        for _ in range(chance.randint(0, 3))
    )


def some_deed(chance, number):
    page = chance.randint(0, 3)
    reads = sorted({page} | {each for each in range(12) if chance.random() < 0.2})
    return (number, page, reads, some_words(chance, 2))


def lines_at(*heads):
    """Lines with these tuples (number, ahead, last)."""
    return [(number, ahead, last, (number, 2, [2], ("put", number))) for number, ahead, last in heads]


class TextTest(unittest.TestCase):
    def test_texts_of_deeds(self):
        self.assertEqual(deed_text((1, 2, [2], ())), "2 2 ()")
        self.assertEqual(deed_text((3, 10, [0, 10], (None, ((), (None,)), 12, "zz"))), "10 0,10 (- (() (-)) 12 zz)")
        chance = random.Random(1)
        for number in range(1, 400):
            deed = some_deed(chance, number)
            if plainlog.is_deed_with_room(deed):
                self.assertEqual(deed_text(deed), plainlog.plain_text(deed))
                self.assertEqual(shape(deed_by(number, deed_text(deed))), shape(deed))

    def test_144_signs_and_145(self):
        full, more = deed_of_length(3, 144), deed_of_length(3, 145)
        self.assertEqual((len(plainlog.plain_text(full)), len(plainlog.plain_text(more))), (144, 145))
        self.assertEqual(deed_by(3, deed_text(full)), full)
        with self.assertRaises(errors.InvalidDeed) as caught:
            deed_text(more)
        self.assertIs(caught.exception.value, more)
        with self.assertRaises(errors.InvalidText):
            deed_by(3, plainlog.plain_text(more))
        self.assertEqual(line_at(line_cells((3, 2, True, full))), ("whole", (3, 2, True, full)))
        with self.assertRaises(errors.InvalidLine):
            line_cells((3, 2, True, more))

    def test_a_deed_with_very_great_counts_is_refused_by_its_length_alone(self):
        deed = (10**5000, 10**5000, [10**5000], (10**5000,))
        with self.assertRaises(errors.InvalidDeed):
            deed_text(deed)
        self.assertEqual(deed_by(10**5000, "2 2 ()"), (10**5000, 2, [2], ()))

    def test_a_text_changed_in_one_place_is_refused_or_the_text_of_another_deed(self):
        for text in ["2 2 (put (row ann) 1 (7))", "10 0,3,10 (- () ((a 0)))", "2 2 ()"]:
            changed = [text[:at] + sign + text[at + cut:] for at in range(len(text) + 1) for cut in [0, 1]
                       for sign in ["", " ", "0", "1", "a", "(", ")", "-", ",", "A", "+", "\n", "\t", "~"]]
            for other in changed + [text + text, text.upper(), text.replace(" ", "  "), text + " ", " " + text]:
                try:
                    deed = deed_by(7, other)
                except errors.InvalidText as error:
                    self.assertIs(error.value, other)
                    continue
                self.assertTrue(is_deed(deed), other)
                self.assertEqual((deed[0], plainlog.plain_text(deed)), (7, other))

    def test_texts_that_are_none(self):
        for text in ["", " ", "2", "2 2", "2 2 ", "2 2 a", "2 2 (", "2 2 )", "2 2 (a", "2 2 a)", "2 2 (a))", "2 2 ()()",
                     "2 2 () ()", "2 2 -", "2 2 7", "02 2 ()", "2 02 ()", "2 2 (07)", "2 3 ()", "2 2,2 ()", "2 3,2 ()",
                     "2 2, ()", "2 ,2 ()", "2  2 ()", "2 2 ( )", "2 2 (a  b)", "2 2 ( a)", "2 2 (a )", "2 2 (abcdefghi)",
                     "2 2 (A)", "2 2 (--)", "2 2 (-1)", "2 2 (a-b)", "2 2 (a,b)", "-2 -2 ()", "x x ()", "2 2 (a(b))",
                     "2 2 ((a)b)", "2 2 ((a)(b))", "2 2 " + "(" * 70 + ")" * 69, "2 2 " + "(" * 100000]:
            with self.assertRaises(errors.InvalidText):
                deed_by(1, text)
        self.assertEqual(deed_text(deed_by(1, "2 2 " + "(" * 70 + ")" * 70)), "2 2 " + "(" * 70 + ")" * 70)

    def test_wrong_numbers_and_texts_in_their_order(self):
        for odd in odd_objects():
            if not (type(odd) is int and odd > 0):
                for text in ["2 2 ()", "none", None]:
                    with self.assertRaises(errors.InvalidCount) as caught:
                        deed_by(odd, text)
                    self.assertIs(caught.exception.value, odd)


class LineTest(unittest.TestCase):
    def lines(self):
        chance = random.Random(5)
        half = GREAT // 2
        heads = [(1, 0, False), (1, 0, True), (9, 4, True), (half + 1, half, False), (half + 1, half - 1, True),
                 (10**30, 17, False)]
        found = []
        for number, ahead, last in heads:
            found.extend([(number, ahead, last, some_deed(chance, number)) for _ in range(4)])
        found.append((5, 4, True, deed_of_length(5, 144)))
        return [line for line in found if plainlog.is_deed_with_room(line[3])]

    def test_the_twenty_contents(self):
        for line in self.lines():
            cells = line_cells(line)
            self.assertEqual(cells, plainlog.plain_cells(line))
            self.assertEqual(len(cells), 20)
            for power in range(3):
                self.assertEqual(sum((at + 1)**power * part for at, (stamp, part) in enumerate(cells)) % GREAT, 0)
            self.assertTrue(all(stamp == line[0] and 0 <= part < GREAT for stamp, part in cells))
            self.assertEqual(shape(line_at(cells)), shape(("whole", line)))

    def test_twice_ahead_just_below_the_prime_and_not(self):
        half = GREAT // 2
        deed = (half + 3, 2, [2], ())
        self.assertEqual(line_cells((half + 3, half, False, deed))[0], (half + 3, GREAT - 1))
        self.assertEqual(line_cells((half + 3, half - 1, True, deed))[0], (half + 3, GREAT - 2))
        for ahead, last in [(half, True), (half + 1, False)]:
            line = (half + 3, ahead, last, deed)
            with self.assertRaises(errors.InvalidLine) as caught:
                line_cells(line)
            self.assertIs(caught.exception.value, line)

    def test_one_changed_cell_at_each_place_is_mended(self):
        for line in self.lines():
            cells = line_cells(line)
            for at in range(20):
                stamp, part = cells[at]
                for other in [None, (stamp, (part + 1) % GREAT), (stamp, (part - 95) % GREAT), (stamp + 1, part), (0, 0)]:
                    hurt = cells[:at] + [other] + cells[at + 1:]
                    self.assertEqual(shape(line_at(hurt)), shape(("mended", line, at)))

    def test_two_changed_cells_are_never_mended(self):
        chance = random.Random(2)
        line = (7, 3, True, (7, 2, [2, 3], ("put", ("row", "ann"))))
        cells = line_cells(line)
        for pair in itertools.combinations(range(20), 2):
            for _ in range(3):
                hurt = list(cells)
                for at in pair:
                    stamp, part = hurt[at]
                    hurt[at] = chance.choice([None, (stamp, (part + chance.randint(1, 99)) % GREAT), (stamp - 1, part)])
                self.assertEqual(line_at(hurt), ("none",))

    def test_three_changed_cells_never_make_a_whole_line(self):
        chance = random.Random(3)
        line = (7, 3, True, (7, 2, [2], ("a",)))
        cells = line_cells(line)
        # Four changes that leave all sums as they are lead from one line to another one of its number.
        other = line_cells((7, 3, True, (7, 2, [2], ("b",))))
        unlike = [at for at in range(20) if cells[at] != other[at]]
        self.assertGreaterEqual(len(unlike), 4)
        for at in unlike:
            mixed = [other[place] if place != at else cells[at] for place in range(20)]
            self.assertEqual(line_at(mixed), ("mended", (7, 3, True, (7, 2, [2], ("b",))), at))
        for three in itertools.combinations(range(20), 3):
            hurt = list(cells)
            for at in three:
                hurt[at] = (7, chance.randrange(GREAT))
            self.assertNotEqual(line_at(hurt)[0], "whole")

    def test_unlike_lines_of_one_number_are_unlike_in_four_cells(self):
        lines = [(9, ahead, last, (9, 2, [2], words)) for ahead in [0, 1, 8] for last in [False, True]
                 for words in [(), ("a",), ("b",), ("a", "b"), (1,), (2,), ("abcdefgh", "abcdefgh", "abcdefgi")]]
        for one, other in itertools.combinations(lines, 2):
            pairs = zip(line_cells(one), line_cells(other))
            self.assertGreaterEqual(sum(left != right for left, right in pairs), 4)

    def test_cells_of_two_lines_mixed(self):
        chance = random.Random(4)
        one, other = lines_at((3, 2, True), (8, 7, False))
        for many in range(21):
            for _ in range(20):
                kept = chance.sample(range(20), many)
                mixed = [cell if at in kept else late for at, (cell, late) in
                         enumerate(zip(line_cells(one), line_cells(other)))]
                wanted = ("none",)
                if many in [0, 20]:
                    wanted = ("whole", one if many else other)
                if many == 1:
                    wanted = ("mended", other, kept[0])
                if many == 19:
                    wanted = ("mended", one, ({*range(20)} - {*kept}).pop())
                self.assertEqual(line_at(mixed), wanted)

    def test_cells_with_right_sums_that_are_no_line(self):
        line = (7, 3, True, (7, 2, [2], ("a",)))
        numbers = [part for stamp, part in line_cells(line)][:17]
        for at, part in [(0, 14), (0, 15), (0, 2 * 7), (1, 0), (1, 95**9), (1, GREAT - 1), (16, 1), (5, 95**8), (2, 94)]:
            changed = numbers[:at] + [part] + numbers[at + 1:]
            cells = [(7, each) for each in changed + plainlog.checks_of(changed)]
            self.assertEqual(line_at(cells), ("none",), (at, part))
        self.assertEqual(line_at([(0, part) for stamp, part in line_cells(line)]), ("none",))
        self.assertEqual(line_at([(0, 0)] * 20), ("none",))
        # Stamps alone do not tell a deed: its number has to be above the number ahead.
        self.assertEqual(line_at([(3, part) for stamp, part in line_cells(line)]), ("none",))
        self.assertEqual(line_at([(4, part) for stamp, part in line_cells(line)])[0], "whole")


class ChainTest(unittest.TestCase):
    def test_rings_of_whole_hurt_and_empty_places(self):
        lines = lines_at((1, 0, True), (2, 1, False), (5, 2, True), (6, 5, False), (4, 1, True))
        contents = [line_cells(line) for line in lines] + [EMPTY]
        hurt = line_cells(lines[1])
        hurt[6] = (1, 9)
        twice = list(hurt)
        twice[7] = None
        for many in [1, 2, 3]:
            rings = list(itertools.product(contents + [hurt, twice], repeat=many))
            for places in rings if many < 3 else rings[::4]:
                places = list(places)
                for start in range(many):
                    for ahead in [0, 1, 2]:
                        wanted = plainlog.plain_chain(places, start, ahead, lines)
                        self.assertEqual(chain(places, start, ahead), wanted)
                        taken = [(start + step) % many for step in range(len(wanted))]
                        told = [at for at in range(many) if at not in taken
                                and plainlog.plain_line_at(places[at], lines) != ("none",)]
                        self.assertEqual(ghosts(places, start, ahead), told)
                        done = plainlog.up_to_last(wanted)
                        self.assertEqual(committed(chain(places, start, ahead)), done)
                        if len(done) < many:
                            number = done[-1][0] if done else ahead
                            self.assertEqual(next_place(places, start, ahead), ((start + len(done)) % many, number))
                        else:
                            with self.assertRaises(errors.Full) as caught:
                                next_place(places, start, ahead)
                            self.assertEqual(caught.exception.value, start)

    def test_a_chain_once_round(self):
        lines = lines_at((4, 3, True), (7, 4, False), (8, 7, True))
        places = [line_cells(lines[2]), line_cells(lines[0]), line_cells(lines[1])]
        self.assertEqual(chain(places, 1, 3), lines)
        self.assertEqual(ghosts(places, 1, 3), [])
        with self.assertRaises(errors.Full) as caught:
            next_place(places, 1, 3)
        self.assertEqual(caught.exception.value, 1)
        self.assertEqual(next_place([line_cells(lines[1]), line_cells(lines[0])], 1, 3), (0, 4))

    def test_a_chain_whose_last_commit_is_not_whole(self):
        lines = lines_at((1, 0, False), (2, 1, True), (3, 2, False), (4, 3, False))
        self.assertEqual(committed(lines), lines[:2])
        self.assertEqual(committed(lines[:1]), [])
        self.assertEqual(committed([]), [])
        self.assertEqual(committed(lines[2:]), [])

    def test_committed_lines_have_lists_of_their_own(self):
        lines = lines_at((1, 0, True), (2, 1, True))
        told = committed(lines)
        spoil(told)
        self.assertEqual(lines, lines_at((1, 0, True), (2, 1, True)))
        told = committed(lines)
        lines[0][3][2].append(9)
        self.assertEqual(told, lines_at((1, 0, True), (2, 1, True)))

    def test_numbers_never_come_again(self):
        lines = lines_at((5, 3, True), (6, 5, True))
        lost = [(12, 3)] + [None] * 19
        for places, least, wanted in [
            ([EMPTY], 0, 0), ([EMPTY], 4, 4), ([line_cells(lines[0])], 0, 6), ([line_cells(lines[0])], 6, 6),
            ([line_cells(lines[1]), lost], 0, 13), ([lost, EMPTY], 13, 13), ([lost], 10**29, 10**29),
            ([[(0, 0)] + [None] * 19], 0, 1),
        ]:
            self.assertEqual(next_number(places, least), wanted)


class FallsTest(unittest.TestCase):
    """Lines written only as [48] tells, with falls that lose any lot of the cells written since the last barrier."""

    def fallen(self, chance, stood, newest):
        """A picture: each cell as it stood or as it is newest."""
        found = []
        for elder, newer in zip(stood, newest):
            many = chance.choice([0, 1, 2, 3, 10, 18, 19, 20, 20])
            kept = chance.sample(range(20), many)
            found.append([newer[at] if at in kept else elder[at] for at in range(20)])
        return found

    def test_what_the_chain_of_every_picture_is(self):
        chance = random.Random(11)
        for _ in range(40):
            many = chance.randint(2, 4)
            stood = [list(EMPTY) for _ in range(many)]
            number = 1
            for _ in range(8):
                number = max(number, next_number(stood, 1))
                barred = committed(chain(stood, 0, 0))
                lines, newest, ends = list(barred), [list(cells) for cells in stood], [len(barred)]
                while len(lines) < many and chance.random() < 0.8:
                    size = min(chance.randint(1, 2), many - len(lines))
                    for at in range(size):
                        ahead = lines[-1][0] if lines else 0
                        if at == 0:
                            self.assertEqual(next_place(newest, 0, 0), (len(lines), ahead))
                        lines.append((number, ahead, at == size - 1, (number, 2, [2], ("put", number))))
                        newest[len(lines) - 1] = line_cells(lines[-1])
                        number += chance.randint(1, 2)
                    ends.append(len(lines))
                    if chance.random() < 0.3:
                        stood, barred, ends = [list(cells) for cells in newest], list(lines), [len(lines)]
                pictures = [self.fallen(chance, stood, newest) for _ in range(12)]
                for picture in pictures:
                    told = committed(chain(picture, 0, 0))
                    self.assertEqual(told[: len(barred)], barred)
                    self.assertIn(len(told), ends)
                    self.assertEqual(told, lines[: len(told)])
                stood = pictures[-1]

    def test_every_picture_of_two_lines_by_the_cells_that_are_lost(self):
        # A lost lot of one line: none, each one cell, each two, and some greater ones.
        lots = [()] + [(at,) for at in range(20)] + list(itertools.combinations(range(20), 2))[::9]
        lots += [tuple(range(3)), tuple(range(10)), tuple(range(19)), tuple(range(20))]
        one, two = lines_at((3, 0, True), (4, 3, True))
        for elder in [EMPTY, line_cells((2, 0, True, (2, 5, [5], ("old",)))), line_cells((1, 0, False, (1, 5, [5], ())))]:
            for lost, more in itertools.product(lots, lots[::5]):
                picture = [[elder[at] if at in lost else cell for at, cell in enumerate(line_cells(one))],
                           [elder[at] if at in more else cell for at, cell in enumerate(line_cells(two))]]
                told = chain(picture, 0, 0)
                if len(lost) > 1:
                    self.assertNotIn(one, told)
                else:
                    self.assertEqual(told, [one, two] if len(more) < 2 else [one])

    def test_a_number_that_comes_again_may_bring_a_lost_line_back(self):
        elder = lines_at((1, 0, True), (2, 1, True))
        late = (1, 0, True, (1, 4, [4], ("new",)))
        picture = [line_cells(late), line_cells(elder[1])]
        self.assertEqual(chain(picture, 0, 0), [late, elder[1]])


if __name__ == "__main__":
    unittest.main()
