"""Promises [125] to [127]: scripts with falls within tries, their texts, and their ends."""

import random
import unittest

from tests.plainscripts import is_script, picture_by, plain_end, plain_play, some_script, text_of
from tests.support import bent, errors, odd_objects, outcome_of, shape, spoil
from tests.test_papers import changed
from weavestore.scripts import end_of, ends_by_choices, play, read_script, script_text, shortened
from weavestore.store import Store

ANN = ("on", "ann")
DAY = [("begin", "a", "writer"), ("put", "a", ANN, (1,)), ("end", "a"), ("sync",), ("begin", "b", "writer"), ("drop", "b", ANN), ("end", "b"),
       ("fall", []), ("newest",), ("wake",), ("newest",)]
EACH = [
    ("begin", "a", "nobody"), ("ask", "a", ("look", ("row", 7))), ("ask", "a", ("any", (0,), ("on", "ann", 3))), ("ask", "a", ("find", "find name from staff where pay < 5 first 2")),
    ("put", "a", ("by", 1), ()), ("put", "a", ANN, (1, "a")), ("drop", "a", ("index", "x")), ("give_up", "a"), ("end", "a"), ("pin", "end", 0), ("unpin", "try"),
    ("write_back", 99), ("mend", 0), ("cut", 10 ** 20), ("fall", []), ("fall", [0, 12, 3]), ("would_end", "a"), ("turned_looks", "a"), ("why_not_write", 1),
    ("sync",), ("root",), ("clear",), ("join",), ("wake",), ("newest",), ("standing",), ("mixed_pages",), ("free_places",), ("is_down",),
    ("try", []), ("try", [("try", [("sync",), ("try", [("try", [("end", "end")])])]), ("root",)]),
]


def all_of(store):
    """All that a store tells whose power is there."""
    if store.is_down():
        return shape([store.disc(), store.record()])
    return shape([store.disc(), store.record(), store.shelf(), store.book(), store.under_way(), store.standing(), store.run(), store.waits(), store.lines()])


class PlayTest(unittest.TestCase):
    def test_what_is_said(self):
        chance, seen = random.Random(125), {}
        for _ in range(150):
            script = some_script(chance, 30)
            one, other = Store(3, 6), Store(3, 6)
            before = shape(script)
            said = play(one, script)
            self.assertEqual(shape(said), shape(plain_play(other, script)))
            self.assertEqual(shape(script), before)
            self.assertEqual(all_of(one), all_of(other))
            for part in said:
                seen[part[0]] = seen.get(part[0], 0) + 1
                if part[0] == "refused":
                    seen[part[1]] = seen.get(part[1], 0) + 1
        for word in ["told", "tried", "done", "refused", "Fallen", "Refused", "InvalidName", "InvalidKind", "InvalidKey", "InvalidPage", "InvalidCommit"]:
            self.assertGreater(seen.get(word, 0), 3, seen)

    def test_each_command_and_a_full_log(self):
        store = Store(3, 4)
        said = play(store, EACH)
        self.assertEqual([part[0] for part in said[:9]], ["refused"] * 9)
        late = [("begin", "a", "writer"), ("put", "a", ANN, ("abcdefgh",) * 6), ("put", "a", ("on", "bob"), ("abcdefgh",) * 6), ("end", "a")]
        self.assertEqual(play(Store(3, 40), late)[-1], ("refused", "Full"))
        self.assertEqual(play(Store(4, 4), late)[-1], ("refused", "Full"))

    def test_tries_leave_the_store_as_it_was(self):
        inner = [("sync",), ("begin", "b", "writer"), ("put", "b", ANN, (2,)), ("end", "b"), ("cut", 3), ("sync",), ("write_back", 2), ("newest",), ("fall", [1]), ("wake",)]
        deep = [("try", [("try", [("try", [("try", inner)])])])]
        store = Store(3, 6)
        play(store, DAY[:3])
        before = all_of(store)
        said = play(store, deep)
        self.assertEqual(all_of(store), before)
        for _ in range(4):
            self.assertEqual((len(said), said[0][0]), (1, "tried"))
            said = said[0][1]
        self.assertEqual(said[4:], [("done",), ("told", 2), ("refused", "Fallen"), ("refused", "Fallen"), ("done",), ("told", 2)])

    def test_choices(self):
        script = DAY[:3] + [("begin", "b", "writer"), ("drop", "b", ANN), ("put", "b", ("z",), ()), ("end", "b")]
        for choices in [[], [0], [1], [0, 1], [1, 1, 0], [0, 1, 1, 0, 0], [5, 4, 3, 2], [1] * 100, list(range(100)), [10 ** 20, 10 ** 20 + 1]]:
            one, other = Store(3, 6), Store(3, 6)
            play(one, script)
            play(other, script)
            picture = picture_by(one.disc(), choices)
            self.assertEqual(play(one, [("fall", choices)]), [("done",)])
            other.fall(picture)
            self.assertTrue(one.disc() == other.disc())

    def test_errors(self):
        for odd in [part for part in odd_objects() if not isinstance(part, Store)]:
            error = outcome_of(play, odd, None)[0]
            self.assertIs(error.__class__, errors.InvalidStore)
            self.assertIs(error.value, odd)
        store = Store(3, 6)
        for odd in odd_objects() + [[("deed", "a", "count staff")], [("harm", {})], [("sync", 1)], (("sync",),), [["sync"]], [("fall", [True])], [("fall", (0,))]]:
            error = outcome_of(play, store, odd)[0]
            if odd != []:
                self.assertIs(error.__class__, errors.InvalidScript, odd)
                self.assertIs(error.value, odd)
        self.assertEqual(play(store, []), [])


class TextTest(unittest.TestCase):
    def test_both_ways(self):
        chance = random.Random(126)
        for script in [[], EACH, EACH[::-1], DAY] + [[command] for command in EACH] + [some_script(chance, 20, 4) for _ in range(150)]:
            text = script_text(script)
            self.assertEqual(text, text_of(script))
            self.assertEqual(shape(read_script(text)), shape(script))

    def test_forms_and_what_is_bent(self):
        for command in EACH:
            for other in bent(command):
                self.assertIs(outcome_of(script_text, [other])[0] is None, is_script([other]), other)
        for odd in odd_objects():
            error = outcome_of(script_text, odd)[0]
            self.assertIs(error is None, is_script(odd))
            if error is not None:
                self.assertIs(error.__class__, errors.InvalidScript)
                self.assertIs(error.value, odd)

    def test_texts_changed_in_one_place(self):
        for script in [EACH[:9], EACH[9:19], EACH[19:30], EACH[30:]]:
            for late in changed(script_text(script)):
                error, told = outcome_of(read_script, late)
                if error is None:
                    self.assertIs(is_script(told), True)
                    self.assertEqual(text_of(told), late)
                else:
                    self.assertIs(error.__class__, errors.InvalidText)
                    self.assertIs(error.value, late)
        for odd in [text for text in odd_objects() if text != ""] + [
                "sync ", " sync", "sync\n", "\nsync", "sync\n\nsync", "try", "try\nend\nend", "try\nsync\nend", "try\n   sync\nend", "try\n  sync\n  end", "try\n  end", "  sync",
                "end", "end A", "fall ", "fall 01", "fall 1  2", "fall a", "cut", "cut -1", "cut 1 2", "begin a", "begin a b c", "put a on", "put a on ann= 1", "put a =1", "put a on=-",
                "ask a look", "ask a look on<oo", "ask a many on", "ask a many on<oo<a", "ask a find count  staff", "ask a find count staff ", "ask a find", "drop a", "drop a ", "pin a",
                "pin a 01", "deed a x", "harm", "newest 1", "tries"]:
            error = outcome_of(read_script, odd)[0]
            self.assertIs(error.__class__, errors.InvalidText, odd)
            self.assertIs(error.value, odd)
        self.assertEqual(read_script("try\nend\ntry\n  try\n  end\n  end end\nend"), [("try", []), ("try", [("try", []), ("end", "end")])])


class EndTest(unittest.TestCase):
    def test_ends_and_what_is_left(self):
        chance = random.Random(127)
        shorter, down, many = 0, 0, 0
        for _ in range(60):
            script = some_script(chance, 16)
            end = plain_end(3, 6, script)
            self.assertEqual(shape(end_of(3, 6, script)), shape(end))
            left = list(script)
            for at in range(len(script) - 1, -1, -1):
                if plain_end(3, 6, left[:at] + left[at + 1:]) == end:
                    left = left[:at] + left[at + 1:]
            self.assertEqual(shape(shortened(3, 6, script)), shape(left))
            shorter += 0 < len(left) < len(script)
            down += end is None
            falls = [at for at, command in enumerate(script) if command[0] == "fall"]
            lists = [[], [0], [1], [1, 0], [0, 0, 1, 3]]
            if not falls:
                error = outcome_of(ends_by_choices, 3, 6, script, lists)[0]
                self.assertIs(error.__class__, errors.Refused)
                self.assertIs(error.value, script)
            else:
                many += 1
                ends = [plain_end(3, 6, script[: falls[-1]] + [("fall", choices)] + script[falls[-1] + 1:]) for choices in lists]
                self.assertEqual(shape(ends_by_choices(3, 6, script, lists)), shape(ends))
        self.assertTrue(shorter > 10 and down > 5 and many > 10, (shorter, down, many))

    def test_a_fall_in_a_try_is_none(self):
        script = DAY[:3] + [("try", [("fall", [1])])]
        self.assertIs(outcome_of(ends_by_choices, 3, 6, script, [[1]])[0].__class__, errors.Refused)
        late = DAY[:3] + [("fall", [0]), ("wake",), ("try", [("fall", [1])])]
        self.assertEqual([end[0] for end in ends_by_choices(3, 6, late, [[], [1], [0], [0, 1]])], [0, 1, 0, 0])
        self.assertEqual(ends_by_choices(3, 6, late, []), [])
        self.assertEqual(shortened(3, 6, [("try", DAY), ("sync",), ("newest",)]), [])

    def test_errors_in_their_order(self):
        script = DAY[:2]
        for row, wanted, value in [
            ([2, None, None, None], errors.InvalidCount, 0), ([13, None, None, None], errors.InvalidCount, 0), ([True, None, None, None], errors.InvalidCount, 0),
            ([3, 3, None, None], errors.InvalidCount, 1), ([12, 41, None, None], errors.InvalidCount, 1), ([3, 4, None, None], errors.InvalidScript, 2),
            ([3, 4, [("deed",)], None], errors.InvalidScript, 2), ([3, 4, script, None], errors.InvalidChoice, 3), ([3, 4, script, [[True]]], errors.InvalidChoice, 3),
            ([3, 4, script, [()]], errors.InvalidChoice, 3), ([3, 4, script, ([],)], errors.InvalidChoice, 3), ([3, 4, script, [[-1]]], errors.InvalidChoice, 3),
            ([3, 4, script, [[]]], errors.Refused, 2)]:
            for function in [ends_by_choices] + ([end_of, shortened] if value < 3 and wanted is not errors.Refused else []):
                error = outcome_of(function, *row[: 4 if function is ends_by_choices else 3])[0]
                self.assertIs(error.__class__, wanted, row)
                self.assertIs(error.value, row[value])

    def test_new_objects(self):
        script = [("fall", [1]), ("try", [("fall", [0])]), ("wake",)]
        before = shape(script)
        for told in [shortened(3, 4, script), read_script(script_text(script)), play(Store(3, 4), script), end_of(3, 4, script)[1], ends_by_choices(3, 4, script, [[1]])]:
            spoil(told)
            self.assertEqual(shape(script), before)
        late = shortened(3, 4, [("fall", [1])])
        spoil(late)
        self.assertEqual(shortened(3, 4, [("fall", [1])]), [("fall", [1])])


if __name__ == "__main__":
    unittest.main()
