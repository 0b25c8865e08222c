"""Promises [77] to [82]: histories, and the rows in which all of them could have been done alone."""

import itertools
import random
import unittest

from tests.plainhistories import Plain, is_history as plain_is_history, some_history
from tests.support import bent, errors, is_in, odd_objects, outcome_of, shape, spoil
from weavestore import histories
from weavestore.histories import all_rows, falls_of, fates, first_wrong, is_history, is_right, is_row, kept_by, right_event
from weavestore.histories import row_of, standing_of, states_of, told_places, with_fall

KEYS = [("on", "ann"), ("on", "bob"), ("a",), (1, "b")]
ON, OO = ("on",), ("oo",)
EACH = [
    ("begin", "x", "writer"), ("ask", "x", ("look", ("row", "t", 1)), None), ("ask", "x", ("look", ON), ()),
    ("ask", "x", ("between", ON, OO), [(OO, (1,)), (ON, ()), (OO, (1,))]), ("ask", "x", ("many", ON, OO), 5),
    ("ask", "x", ("any", ON, OO), False), ("ask", "x", ("first", ON), (OO, (1, "a"))), ("ask", "x", ("first", ON), None),
    ("put", "x", ("on", 3), ("a", 1)), ("drop", "x", ("on",)), ("end", "x", ("committed", 1)), ("end", "x", ("ended", 0)),
    ("end", "x", ("refused", 0, True, [(ON, ())])), ("end", "x", ("refused", 3, (ON, (1,)), None)),
    ("give up", "x"), ("stand",), ("fall", 0),
]


def histories_by_chance(seed, many, longest=22):
    chance = random.Random(seed)
    for _ in range(many):
        yield some_history(chance, chance.randint(0, longest), list("abc")[: chance.randint(1, 3)], KEYS)


class FormTest(unittest.TestCase):
    def test_each_event_and_what_is_bent(self):
        self.assertIs(is_history([]), True)
        for event in EACH:
            self.assertIs(is_history([event]), True, event)
            for other in bent(event):
                self.assertIs(is_history([other]), plain_is_history([other]), other)
        for odd in odd_objects():
            self.assertIs(is_history(odd), odd == [] and type(odd) is list, odd)
        for odd in [("ask", "x", ("find", "count staff"), ("told", 1)), ("put", "x", ("row", "a", 1), ()), ("drop", "x", ("by",)),
                    ("end", "x", ("committed", 0)), ("begin", "x", "clearer"), ("begin", "X", "reader"), ("ask", "x", ("many", ON, OO), True),
                    ("ask", "x", ("any", ON, OO), 0), ("ask", "x", ("look", ON), (True,)), ("give_up", "x"), ("stand", 1), ["stand"],
                    ("end", "x", ("refused", 0, 1)), ("end", "x", ("refused", 0, 1, -1)), ("end", "x", ("refused", 0, ("told", []), 1))]:
            self.assertIs(is_history([odd]), False, odd)
            self.assertIs(is_history([("stand",), odd]), False, odd)
        self.assertIs(is_history((("stand",),)), False)


class RightTest(unittest.TestCase):
    def check(self, history):
        plain = Plain(history)
        self.assertEqual(first_wrong(history), plain.wrong, history)
        self.assertIs(is_right(history), plain.wrong is None)
        self.assertEqual(shape(right_event(history)), shape(plain.right))
        return plain

    def test_right_histories_and_bent_ones(self):
        seen = {}
        chance = random.Random(1)
        for history in histories_by_chance(2, 60):
            self.assertIsNone(self.check(history).wrong)
            for _ in range(25 if history else 0):
                at = chance.randrange(len(history))
                late = [history[:at] + history[at + 1:], history[:at] + [chance.choice(EACH)] + history[at:]]
                other = chance.choice(list(bent(history[at])))
                late.append(history[:at] + [other] + history[at + 1:])
                for each in late:
                    if plain_is_history(each):
                        plain = self.check(each)
                        word = None if plain.wrong is None else each[plain.wrong][0]
                        seen[word] = seen.get(word, 0) + 1
        self.assertTrue(all(seen.get(word, 0) > 5 for word in [None, "begin", "ask", "put", "end", "fall", "give up"]), seen)

    def test_one_is_not_true(self):
        day = [("begin", "a", "writer"), ("begin", "b", "writer"), ("ask", "a", ("any", ON, OO), False), ("put", "a", ("n",), ()),
               ("put", "b", ("on", 1), ()), ("end", "b", ("committed", 1))]
        good = day + [("end", "a", ("refused", 0, False, True))]
        self.check(good)
        self.assertIs(is_right(good), True)
        for outcome in [("refused", 0, 0, True), ("refused", 0, False, 1), ("refused", 0, 0, 1), ("refused", 0, False, ()), ("refused", 1, False, True),
                        ("committed", 2), ("ended", 0), ("refused", 0, True, False)]:
            late = day + [("end", "a", outcome)]
            self.assertEqual(self.check(late).wrong, 6)
            self.assertEqual(shape(right_event(late)), shape(("end", "a", ("refused", 0, False, True))))

    def test_names_that_begin_again_and_a_reader_that_puts(self):
        day = [("begin", "a", "reader"), ("begin", "a", "writer")]
        self.assertEqual((first_wrong(day), right_event(day)), (1, None))
        for event in [("put", "a", ("n",), ()), ("drop", "a", ("n",)), ("end", "b", ("ended", 0)), ("give up", "b"), ("fall", 1)]:
            late = day[:1] + [event]
            self.check(late)
            self.assertEqual((first_wrong(late), right_event(late)), (1, None))
        late = [("begin", "a", "writer"), ("end", "a", ("ended", 0)), ("begin", "a", "writer"), ("end", "a", ("committed", 1))]
        self.assertEqual((first_wrong(late), right_event(late)), (3, ("end", "a", ("ended", 0))))

    def test_an_empty_history(self):
        self.assertEqual((is_right([]), first_wrong([]), right_event([]), states_of([]), standing_of([])), (True, None, None, [{}], 0))
        self.assertEqual((fates([]), told_places([]), row_of([]), all_rows([]), falls_of([])), ({}, {}, [], [[]], [(0, 0)]))
        self.assertEqual((is_row([], []), is_row([], [0]), with_fall([], 0, 0), kept_by([], 0, 0)), (True, False, [("fall", 0)], []))


class FatesTest(unittest.TestCase):
    def test_states_fates_and_what_may_be_told(self):
        seen = {}
        for history in histories_by_chance(3, 150, 36):
            plain = Plain(history)
            self.assertEqual(shape(states_of(history)), shape(plain.states))
            self.assertEqual(standing_of(history), plain.standing)
            self.assertEqual(shape(fates(history)), shape(plain.fates))
            self.assertEqual(list(fates(history)), sorted(fates(history)))
            self.assertEqual(shape(told_places(history)), shape(plain.told_places()))
            for fate in plain.fates.values():
                seen[fate[0]] = seen.get(fate[0], 0) + 1
        self.assertEqual(set(seen), {"committed", "ended", "refused", "given up", "lost", "under way"})
        self.assertTrue(all(many > 3 for many in seen.values()), seen)

    def test_falls_take_what_did_not_stand(self):
        day = [("begin", "a", "writer"), ("put", "a", ("n",), (1,)), ("end", "a", ("committed", 1)), ("begin", "b", "writer"), ("end", "b", ("ended", 1)),
               ("begin", "c", "reader"), ("end", "c", ("ended", 0)), ("begin", "d", "writer"), ("begin", "e", "writer"), ("give up", "e")]
        self.assertEqual(told_places(day), {0: None, 3: None, 5: 6})
        lost = with_fall(day, 10, 0)
        self.assertEqual(fates(lost), {0: ("lost",), 3: ("lost",), 5: ("ended", 0), 7: ("lost",), 8: ("given up",)})
        kept = with_fall(day, 10, 1)
        self.assertEqual(fates(kept), {0: ("committed", 1), 3: ("ended", 1), 5: ("ended", 0), 7: ("lost",), 8: ("given up",)})
        self.assertEqual(told_places(kept), {0: 10, 3: 10, 5: 6})
        again = lost + [("fall", 0), ("begin", "a", "writer"), ("drop", "a", ("m",)), ("end", "a", ("committed", 1)), ("stand",)]
        self.assertEqual((fates(again)[12], told_places(again), row_of(again)), (("committed", 1), {5: 6, 12: 15}, [5, 12]))


class RowsTest(unittest.TestCase):
    def test_all_rows_by_trying_all(self):
        many = 0
        for history in histories_by_chance(4, 150, 30):
            plain = Plain(history)
            lasting = plain.lasting()
            if len(lasting) <= 5:
                rows = [list(row) for row in itertools.permutations(lasting) if plain.is_row(list(row))]
                self.assertEqual(all_rows(history), rows)
                self.assertEqual(rows, sorted(rows))
                for row in itertools.permutations(lasting):
                    self.assertIs(is_row(history, list(row)), list(row) in rows)
                many += len(rows) > 1
            row = row_of(history)
            self.assertIs(plain.is_row(row), True)
            self.assertIs(is_row(history, row), True)
            numbers = [(plain.fates[place][1], plain.fates[place][0] == "ended", place) for place in row]
            self.assertEqual(numbers, sorted(numbers))
        self.assertGreater(many, 20)

    def test_what_is_no_row(self):
        day = [("begin", "a", "writer"), ("put", "a", ("n",), (1,)), ("end", "a", ("committed", 1)), ("begin", "b", "reader"),
               ("ask", "b", ("look", ("n",)), None), ("end", "b", ("ended", 0)), ("stand",)]
        self.assertEqual(all_rows(day), [[3, 0]])
        for odd in odd_objects() + list(bent([3, 0])):
            self.assertIs(is_row(day, odd), is_in(odd, [[3, 0]]), odd)
        one = day[:3]
        self.assertIs(is_row(one, [0]), True)
        self.assertIs(is_row(one, [False]), False)

    def test_who_may_be_told_ahead_of_a_begin_stands_ahead(self):
        day = [("begin", "a", "writer"), ("drop", "a", ("n",)), ("end", "a", ("committed", 1)), ("stand",), ("begin", "b", "reader"), ("end", "b", ("ended", 1)),
               ("begin", "c", "reader"), ("end", "c", ("ended", 1))]
        self.assertEqual(all_rows(day), [[0, 4, 6]])
        late = day[:4] + [day[4], day[6], day[5], day[7]]
        self.assertEqual(all_rows(late), [[0, 4, 5], [0, 5, 4]])


class FallsTest(unittest.TestCase):
    def test_all_falls_by_the_plain_row(self):
        for history in histories_by_chance(5, 40):
            falls = falls_of(history)
            good = [(place, number) for place in range(len(history) + 1) for number in range(len(history) + 1)
                    if Plain(history[:place] + [("fall", number)]).wrong is None]
            self.assertEqual(falls, good)
            ahead = {place: Plain(history[:place]) for place in range(len(history) + 1)}
            for place, number in falls:
                late = with_fall(history, place, number)
                self.assertEqual(shape(late), shape(history[:place] + [("fall", number)]))
                self.assertIs(is_right(late), True)
                kept = kept_by(history, place, number)
                self.assertEqual(kept, Plain(late).lasting())
                told = ahead[place].told_places()
                self.assertTrue(all(each in kept for each in told if told[each] is not None))
                committed = [each for each in row_of(history[:place]) if ahead[place].fates[each][0] == "committed"]
                left = [each for each in row_of(late) if ahead[place].fates[each][0] == "committed"]
                self.assertEqual(left, committed[: len(left)])

    def test_errors_in_their_order(self):
        good = [("begin", "a", "writer"), ("drop", "a", ("n",)), ("end", "a", ("committed", 1)), ("stand",)]
        wrong = [("give up", "a")]
        for function in [with_fall, kept_by]:
            for history, place, number, wanted, value in [
                (None, None, None, errors.InvalidHistory, 0), (wrong, 2, None, errors.InvalidCount, 1), (wrong, True, None, errors.InvalidCount, 1),
                (wrong, 1, None, errors.InvalidCount, 2), (wrong, 1, True, errors.InvalidCount, 2), (wrong, 1, 7, errors.Refused, 0),
                (good, 5, 0, errors.InvalidCount, 1), (good, 4, 0, errors.InvalidCount, 2), (good, 3, 2, errors.InvalidCount, 2),
                (good, 2, 1, errors.InvalidCount, 2), (good, 4, -1, errors.InvalidCount, 2)]:
                error, told = outcome_of(function, history, place, number)
                self.assertIs(error.__class__, wanted)
                self.assertIs(error.value, [history, place, number][value])
        self.assertEqual(with_fall(good, 3, 0)[-1], ("fall", 0))
        self.assertEqual(kept_by(good, 3, 1), [0])

    def test_a_fall_behind_a_fall(self):
        day = [("begin", "a", "writer"), ("drop", "a", ("n",)), ("end", "a", ("committed", 1)), ("fall", 0), ("fall", 0)]
        self.assertEqual(falls_of(day), [(0, 0), (1, 0), (2, 0), (3, 0), (3, 1), (4, 0), (5, 0)])

    def test_new_lists_inside_results(self):
        day = [("begin", "a", "writer"), ("ask", "a", ("between", (0,), ("z",)), []), ("end", "a", ("ended", 0))]
        late = with_fall(day, 3, 0)
        spoil(late)
        self.assertEqual(day[1][3], [])
        self.assertEqual(with_fall(day, 3, 0)[1][3], [])
        for name in ["is_right", "states_of", "fates", "falls_of"]:
            self.assertEqual(shape(getattr(histories, name)(day)), shape(getattr(histories, name)(day)))


if __name__ == "__main__":
    unittest.main()
