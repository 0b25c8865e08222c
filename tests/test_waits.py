"""Promises [26] to [31]: runs, waits, and the fewest barriers."""

import itertools
import random
import unittest

from tests.support import all_waits, bent, odd_objects, outcome_of, shape, unordered
from weavestore import errors
from weavestore.waits import apart_waits, are_apart, are_waits, bare, barriers_for, best_order, broken, is_best_order
from weavestore.waits import is_enough, is_kept, is_moment_picture, is_run, is_why_broken, many_least, may_stand, needless
from weavestore.waits import served, spared, syncs, waits_then, waits_woven, why_broken, with_barriers, woven

BARRIER, TELL = ("barrier",), ("tell",)


def some_run(chance, many, barriers=True):
    kinds = [("write", 0), ("write", 1), ("write", 2), TELL] + ([BARRIER] if barriers else [])
    return [chance.choice(kinds) for _ in range(many)]


def some_waits(chance, run, share=0.4):
    return [wait for wait in all_waits(run) if chance.random() < share]


def plain_may_stand(run, moment):
    """By the words of [27]."""
    done = list(enumerate(run[:moment]))
    last = max([place for place, event in done if event == BARRIER], default=-1)
    found = {}
    for cell in sorted({event[1] for place, event in done if event[0] == "write"}):
        places = [place for place, event in done if event == ("write", cell)]
        ahead = [place for place in places if place < last]
        found[cell] = [ahead[-1] if ahead else None] + [place for place in places if place > last]
    return found


def plain_pictures(run, moment):
    """ALL pictures of a moment."""
    may = plain_may_stand(run, moment)
    return [dict(zip(may, row)) for row in itertools.product(*may.values())]


def breaks(run, wait, moment, picture):
    """By the words of [28]: b shows, and neither a nor a later write stands."""
    early, late = wait
    shows = moment > late and (run[late] == TELL or picture[run[late][1]] == late)
    stands = picture.get(run[early][1])
    return shows and (stands is None or stands < early)


def plain_is_kept(run, wait):
    for moment in range(wait[1] + 1, len(run) + 1):
        if any(breaks(run, wait, moment, picture) for picture in plain_pictures(run, moment)):
            return False
    return True


def plain_with(run, places):
    """The run with barriers put in, and where each event went."""
    late, moved = [], {}
    for place, event in enumerate(run):
        if place in places:
            late.append(BARRIER)
        moved[place] = len(late)
        late.append(event)
    return late, moved


def between(run, wait):
    return BARRIER in run[wait[0]: wait[1]]


def plain_enough(run, waits, places):
    late, moved = plain_with(run, places)
    return all(between(late, (moved[a], moved[b])) for a, b in waits)


def all_fewest(run, waits):
    """ALL lists with the fewest places that are enough."""
    for many in range(len(run) + 1):
        found = [list(row) for row in itertools.combinations(range(len(run)), many) if plain_enough(run, waits, row)]
        if found:
            return found
    raise AssertionError("every place is enough")


def all_orders(one, other):
    rows = itertools.combinations(range(len(one) + len(other)), len(other))
    return [[1 if place in row else 0 for place in range(len(one) + len(other))] for row in rows]


def plain_woven(one, other, order):
    places = [[at for at, turn in enumerate(order) if turn == which] for which in (0, 1)]
    run = dict(zip(places[0], one)) | dict(zip(places[1], other))
    return [run[at] for at in range(len(order))], places


class RunsTest(unittest.TestCase):
    def test_26_runs(self):
        for good in [[BARRIER], [TELL], [("write", 0)], [("write", 10**30), TELL]]:
            self.assertIs(is_run(good), True)
        wrong = [[], [("write",)], [("write", -1)], [("write", True)], [("write", 0, 0)], [("barrier", 0)], [("tell", None)],
                 [["tell"]], [()], ["tell"], (TELL,), [("Tell",)], [("write", "0")], [TELL, None], [(TELL,)], {0: TELL}]
        for value in wrong + [each for each in odd_objects() if each not in ([TELL], [("write", 0)])]:
            self.assertIs(is_run(value), False, value)

    def test_26_waits(self):
        chance = random.Random(1)
        for _ in range(20):
            run = some_run(chance, 5)
            every = all_waits(run)
            for row in itertools.product(range(-1, 6), repeat=2):
                self.assertIs(are_waits(run, [row]), row in every)
            self.assertIs(are_waits(run, every), True)
            self.assertIs(are_waits(run, []), True)
            if len(every) > 1:
                self.assertIs(are_waits(run, every[::-1]), False)
                self.assertIs(are_waits(run, every + every[-1:]), False)
            self.assertIs(are_waits(run, tuple(every)), False)
        run = [("write", 0), ("write", 1), TELL]
        for value in bent([(0, 1), (1, 2)]):
            wanted = shape(value) in [shape(list(row)) for many in range(4)
                                      for row in itertools.combinations([(0, 1), (0, 2), (1, 2)], many)]
            self.assertIs(are_waits(run, value), wanted)

    def test_26_a_wait_is_for_a_telling_or_a_write_of_another_cell(self):
        run = [("write", 0), ("write", 0), BARRIER, TELL, ("write", 1)]
        self.assertEqual([row for row in itertools.product(range(5), repeat=2) if are_waits(run, [row])],
                         [(0, 3), (0, 4), (1, 3), (1, 4)])

    def test_27_what_may_stand(self):
        chance = random.Random(2)
        for _ in range(60):
            run = some_run(chance, chance.randint(1, 9))
            for moment in range(len(run) + 1):
                told = may_stand(run, moment)
                self.assertEqual(shape(told), shape(plain_may_stand(run, moment)))
                pictures = [unordered(picture) for picture in plain_pictures(run, moment)]
                every = [None] + list(range(len(run)))
                for row in itertools.product(every, repeat=len(told)) if len(run) < 6 else []:
                    picture = dict(zip(reversed(list(told)), row))
                    self.assertIs(is_moment_picture(run, moment, picture), unordered(picture) in pictures)
            error, _ = outcome_of(may_stand, run, len(run) + 1)
            self.assertEqual((error.__class__, error.value), (errors.InvalidMoment, len(run) + 1))

    def test_27_the_judge_of_pictures(self):
        run = [("write", 1), BARRIER, ("write", 1), ("write", 0), TELL]
        good = [{0: None, 1: 0}, {0: None, 1: 2}, {0: 3, 1: 0}, {0: 3, 1: 2}]
        for value in list(bent({0: None, 1: 2})) + list(bent({1: 0, 0: 3})):
            wanted = unordered(value) in [unordered(each) for each in good]
            self.assertIs(is_moment_picture(run, 5, value), wanted, value)
        self.assertIs(is_moment_picture([TELL], 1, {}), True)
        self.assertIs(is_moment_picture([TELL], 1, None), False)
        self.assertIs(is_moment_picture([TELL], 1, []), False)

    def test_28_kept_exactly_if_a_barrier_lies_between(self):
        chance = random.Random(3)
        for _ in range(50):
            run = some_run(chance, chance.randint(2, 7))
            for wait in all_waits(run):
                wanted = plain_is_kept(run, wait)
                self.assertEqual(wanted, between(run, wait))
                self.assertIs(is_kept(run, wait), wanted)
                told = why_broken(run, wait)
                if wanted:
                    self.assertIsNone(told)
                else:
                    self.assertIs(is_why_broken(run, wait, told), True)
                    self.assertIn(unordered(told[1]), [unordered(each) for each in plain_pictures(run, told[0])])
                    self.assertTrue(breaks(run, wait, *told))
            every = all_waits(run)
            self.assertEqual(broken(run, every), [wait for wait in every if not between(run, wait)])

    def test_28_the_judge_of_what_breaks(self):
        chance = random.Random(4)
        for _ in range(12):
            run = some_run(chance, 5)
            for wait in all_waits(run):
                for moment in range(len(run) + 1):
                    for picture in plain_pictures(run, moment):
                        wanted = breaks(run, wait, moment, picture)
                        self.assertIs(is_why_broken(run, wait, (moment, picture)), wanted)
        run = [("write", 0), ("write", 1), ("write", 0), TELL]
        good = [(moment, picture) for moment in range(5) for picture in plain_pictures(run, moment)
                if breaks(run, (0, 1), moment, picture)]
        self.assertEqual(good, [(2, {0: None, 1: 1}), (3, {0: None, 1: 1}), (4, {0: None, 1: 1})])
        for value in bent(why_broken(run, (0, 1))):
            wanted = unordered(value) in [unordered(each) for each in good]
            self.assertIs(is_why_broken(run, (0, 1), value), wanted, value)
        self.assertIs(is_why_broken([("write", 0), BARRIER, TELL], (0, 2), None), False)
        self.assertIs(is_why_broken(run, (0, 1), (4, {0: None, 1: 1})), True)
        self.assertIs(is_why_broken(run, (0, 1), (5, {0: None, 1: 1})), False)


class BarriersTest(unittest.TestCase):
    def test_29_enough(self):
        chance = random.Random(5)
        for _ in range(25):
            run = some_run(chance, 6)
            waits = some_waits(chance, run)
            for many in range(7):
                for places in itertools.combinations(range(6), many):
                    self.assertIs(is_enough(run, waits, list(places)), plain_enough(run, waits, places))

    def test_29_the_fewest_and_greatest_places_by_trying_all(self):
        chance = random.Random(6)
        told = set()
        for _ in range(150):
            run = some_run(chance, chance.randint(1, 9))
            waits = some_waits(chance, run, chance.choice([0.1, 0.3, 0.8]))
            every = all_fewest(run, waits)
            greatest = [max(row[at] for row in every) for at in range(len(every[0]))]
            self.assertIn(greatest, every)
            self.assertEqual(barriers_for(run, waits), greatest)
            self.assertEqual(many_least(run, waits), len(every))
            told.add(len(greatest))
            apart = apart_waits(run, waits)
            self.assertIs(are_apart(run, waits, apart), True)
            self.assertEqual(len(apart), len(greatest))
            self.assertTrue(set(apart) <= {wait for wait in waits if not between(run, wait)})
            taken = [place for a, b in apart for place in range(a + 1, b + 1)]
            self.assertEqual((taken, apart), (sorted(set(taken)), sorted(apart)))
        self.assertTrue({0, 1, 2, 3} <= told)

    def test_29_no_waits_and_a_run_of_one_event(self):
        for run in [[TELL], [("write", 3)], [BARRIER], [("write", 0), TELL]]:
            self.assertEqual((barriers_for(run, []), many_least(run, []), apart_waits(run, [])), ([], 1, []))
            self.assertIs(is_enough(run, [], []), True)
            self.assertIs(are_apart(run, [], []), True)
            self.assertEqual((broken(run, []), needless(run, [])), ([], [0] if run == [BARRIER] else []))
        self.assertEqual(barriers_for([("write", 0), TELL], [(0, 1)]), [1])

    def test_29_the_judge_of_waits_that_are_apart(self):
        chance = random.Random(7)
        for _ in range(25):
            run = some_run(chance, 6)
            waits = some_waits(chance, run, 0.5)
            fewest = len(all_fewest(run, waits)[0])
            for many in range(4):
                for row in itertools.combinations(all_waits(run), many):
                    taken = [place for a, b in row for place in range(a + 1, b + 1)]
                    wanted = many == fewest and len(taken) == len(set(taken)) and all(
                        wait in waits and not between(run, wait) for wait in row)
                    self.assertIs(are_apart(run, waits, list(row)), wanted)
        run = [("write", 0), TELL, ("write", 1), TELL]
        self.assertIs(are_apart(run, [(0, 1), (2, 3)], [(0, 1), (2, 3)]), True)
        for value in [[(2, 3), (0, 1)], [(0, 1)], ((0, 1), (2, 3)), None, [[0, 1], (2, 3)], [(False, 1), (2, 3)]]:
            self.assertIs(are_apart(run, [(0, 1), (2, 3)], value), False)

    def test_29_the_longest_runs(self):
        run = [("write", place % 5) if place % 7 else TELL for place in range(1200)]
        waits = [wait for wait in [(place, place + 11) for place in range(1, 1189)] if are_waits(run, [wait])]
        places = barriers_for(run, waits)
        self.assertTrue(is_enough(run, waits, places))
        self.assertEqual(len(apart_waits(run, waits)), len(places))
        self.assertFalse(is_enough(run, waits, places[1:]))

    def test_30_barriers_put_in(self):
        chance = random.Random(8)
        for _ in range(40):
            run = some_run(chance, 6)
            waits = some_waits(chance, run)
            places = [place for place in range(6) if chance.random() < 0.4]
            late, moved = plain_with(run, places)
            self.assertEqual(with_barriers(run, places), late)
            self.assertEqual(waits_then(run, waits, places), [(moved[a], moved[b]) for a, b in waits])
            self.assertIs(are_waits(late, waits_then(run, waits, places)), True)
            self.assertEqual(bare(late), [event for event in run if event != BARRIER])
        self.assertEqual(bare([BARRIER]), [])
        for places in [[6], [1, 0], [0, 0], [-1], [True], (0,), None, 0]:
            error, _ = outcome_of(with_barriers, [TELL] * 6, places)
            self.assertIs(error.__class__, errors.InvalidMoment)
            self.assertIs(error.value, places)

    def test_30_needless_and_spared(self):
        chance = random.Random(9)
        for _ in range(120):
            run = some_run(chance, chance.randint(1, 10))
            waits = some_waits(chance, run, 0.3)
            kept = [wait for wait in waits if between(run, wait)]
            barriers = [place for place, event in enumerate(run) if event == BARRIER]
            alone, gone = [], []
            for place in barriers:
                if self.all_kept(kept, [each for each in barriers if each != place]):
                    alone.append(place)
                if self.all_kept(kept, [each for each in barriers if each != place and each not in gone]):
                    gone.append(place)
            self.assertEqual(needless(run, waits), alone)
            self.assertEqual(spared(run, waits), gone)

    def all_kept(self, waits, barriers):
        return all(any(a < place < b for place in barriers) for a, b in waits)


class TwoRunsTest(unittest.TestCase):
    def test_31_woven(self):
        chance = random.Random(10)
        for _ in range(20):
            one, other = some_run(chance, 3, False), some_run(chance, 2, False)
            waits, late = some_waits(chance, one), some_waits(chance, other)
            for order in all_orders(one, other):
                run, places = plain_woven(one, other, order)
                self.assertEqual(woven(one, other, order), run)
                both = [(places[0][a], places[0][b]) for a, b in waits] + [(places[1][a], places[1][b]) for a, b in late]
                self.assertEqual(waits_woven(one, waits, other, late, order), sorted(both))
                self.assertIs(are_waits(run, sorted(both)), True)

    def test_31_wrong_runs_and_orders(self):
        one, other = [("write", 0), TELL], [TELL]
        for order in [[0, 1], [0, 0, 0], [0, 0, 1, 1], [False, 0, 1], [0, 0, True], (0, 0, 1), [0, 2, 1], [0, 0, 1, 2], None]:
            for call in [lambda: woven(one, other, order), lambda: waits_woven(one, [], other, [], order)]:
                error, _ = outcome_of(call)
                self.assertIs(error.__class__, errors.InvalidOrder)
                self.assertIs(error.value, order)
            self.assertIs(is_best_order(one, [], other, [], order), False)
        for run in [[BARRIER], [TELL, BARRIER], [], None]:
            error, _ = outcome_of(woven, run, None, None)
            self.assertIs(error.__class__, errors.InvalidRun)
            self.assertIs(error.value, run)
            error, _ = outcome_of(best_order, one, [(0, 1)], run, None)
            self.assertIs(error.value, run)
        self.assertIs(outcome_of(best_order, one, [(0, 0)], None, None)[0].__class__, errors.InvalidMoment)

    def test_31_the_fewest_barriers_over_all_orders(self):
        chance = random.Random(11)
        sums = set()
        for _ in range(40):
            one, other = some_run(chance, chance.randint(1, 4), False), some_run(chance, chance.randint(1, 4), False)
            waits, late = some_waits(chance, one, 0.6), some_waits(chance, other, 0.6)
            own = [len(barriers_for(one, waits)), len(barriers_for(other, late))]
            orders = all_orders(one, other)
            fewest = [len(all_fewest(woven(one, other, order), waits_woven(one, waits, other, late, order))[0])
                      for order in orders]
            self.assertEqual((min(fewest), max(fewest)), (max(own), sum(own)))
            sums.add(max(own) < sum(own))
            for order, many in zip(orders, fewest):
                self.assertIs(is_best_order(one, waits, other, late, order), many == min(fewest))
            self.assertIn(best_order(one, waits, other, late), orders)
            self.assertIs(is_best_order(one, waits, other, late, best_order(one, waits, other, late)), True)
        self.assertEqual(sums, {True, False})

    def test_31_the_best_order_of_long_runs(self):
        one = [("write", place % 3) if place % 4 else TELL for place in range(300)]
        other = [("write", place % 5) for place in range(200)]
        waits = [(place, place + 4) for place in range(295) if are_waits(one, [(place, place + 4)])]
        late = [(place, place + 7) for place in range(190) if are_waits(other, [(place, place + 7)])]
        order = best_order(one, waits, other, late)
        self.assertTrue(is_best_order(one, waits, other, late, order))
        many = len(barriers_for(woven(one, other, order), waits_woven(one, waits, other, late, order)))
        self.assertEqual(many, max(len(barriers_for(one, waits)), len(barriers_for(other, late))))

    def test_31_syncs_by_trying_all(self):
        chance = random.Random(12)
        for _ in range(80):
            due = []
            for _ in range(chance.randrange(5)):
                ready = chance.randrange(6)
                due.append((ready, ready + chance.randint(1, 4)))
            every = []
            for many in range(6):
                rows = itertools.combinations(range(11), many)
                every = [list(row) for row in rows if all(any(a < at <= b for at in row) for a, b in due)]
                if every:
                    break
            greatest = [max(row[at] for row in every) for at in range(len(every[0]))]
            self.assertEqual(syncs(due), greatest)
            self.assertIn(greatest, every)
            for moments in [greatest, [], [3], [0, 2, 5, 10**30]]:
                first = [min([at for at in moments if a < at <= b], default=None) for a, b in due]
                wanted = [[place for place, moment in enumerate(first) if moment == at] for at in moments]
                self.assertEqual(served(due, moments), wanted)
        self.assertEqual(syncs([]), [])
        self.assertEqual(syncs([(0, 1), (0, 1)]), [1])

    def test_31_wrong_moments(self):
        for due in [[(1, 1)], [(2, 1)], [(0, True)], [[0, 1]], [(0, 1, 2)], ((0, 1),), None, [(-1, 1)], [None]]:
            for error, _ in [outcome_of(syncs, due), outcome_of(served, due, None)]:
                self.assertIs(error.__class__, errors.InvalidMoment)
                self.assertIs(error.value, due)
        for moments in [[2, 1], [1, 1], [True], (1,), None, [-1]]:
            error, _ = outcome_of(served, [(0, 1)], moments)
            self.assertIs(error.__class__, errors.InvalidMoment)
            self.assertIs(error.value, moments)

    def test_runs_changed_between_two_calls(self):
        run = [("write", 0), TELL]
        waits = [(0, 1)]
        self.assertEqual(broken(run, waits), [(0, 1)])
        run.insert(1, BARRIER)
        waits[0] = (0, 2)
        self.assertEqual((broken(run, waits), is_kept(run, (0, 2)), needless(run, waits)), ([], True, []))
        waits.clear()
        self.assertEqual((needless(run, waits), spared(run, waits)), ([1], [1]))


if __name__ == "__main__":
    unittest.main()
