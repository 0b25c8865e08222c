"""Promises [88] to [93]: keys over pages that split and join, and the deeds that do it."""

import random
import unittest

from tests import plainshelves
from tests.plainbooks import in_order, plain_state
from tests.plainshelves import content_behind, is_content, is_meant, some_key, some_thing, some_tidy, text_of
from tests.support import bent, errors, odd_objects, outcome_of, shape, spoil
from weavestore.shelves import begin_deed, behind, book_in, clear_deeds, commit_deeds, content_by, content_text, is_shelf, is_tidy
from weavestore.shelves import join_deeds, keys_of, made, new_shelf, page_by, page_of, page_text, pin_deed, pins_in, root_of, unpin_deed
from weavestore.versions import Book, laid

CONTENTS = [
    (0, (1, 0, 0, {})), (0, (12, 3, 40, {"b": 0, "a": 7})), (1, [(None, 2)]), (1, [(None, 5), ((3, "a"), 2), (("on", "ann"), 60)]),
    (2, {}), (3, {("on", "ann"): [(1, (1, "b")), (3, None), (4, ())], (7,): [(2, ("zz",))]}), (9, {("a",): [(5, (1,))]}),
]
LONG = ("abcdefgh",) * 6


def some_shelf(chance):
    """A shelf by chance, perhaps with rows that do not count."""
    shelf, newest = some_tidy(chance, chance.randint(3, 6), 6)
    if chance.random() < 0.6:
        page = chance.randint(2, len(shelf) - 1)
        late = {**shelf[page], some_key(chance): [(newest + 1, some_thing(chance))]}
        if len(text_of(page, late)) <= 108:
            shelf[page] = late
    return shelf


class FormTest(unittest.TestCase):
    def test_shelves_and_what_is_bent(self):
        good = [CONTENTS[1][1], [(None, 3), (("m",), 2)], {("on",): [(1, ("a", 1))]}, {("a",): [(2, None)]}]
        self.assertIs(is_shelf(good), True)
        for other in list(bent(good)) + odd_objects():
            self.assertIs(is_shelf(other), plainshelves.is_shelf(other), other)
        chance = random.Random(88)
        for _ in range(100):
            self.assertIs(is_shelf(some_shelf(chance)), True)
        for directory in [[], [(None, 1)], [(None, 4)], [(("a",), 2)], [(None, 2), (None, 3)], [(None, 2), (("a",), 2)], [(None, 2), (("b",), 3), (("a",), 1)]]:
            self.assertIs(is_shelf([good[0], directory, {}, {}]), False)

    def test_new_shelves(self):
        for pages in range(3, 61):
            shelf = new_shelf(pages)
            self.assertEqual(shape(shelf), shape([(1, 0, 0, {}), [(None, 2)]] + [{}] * (pages - 2)))
            self.assertIs(is_shelf(shelf), True)
            self.assertIs(is_tidy(shelf), True)
        for odd in [2, 61, 0, -3, True, None, "3", 10 ** 31]:
            error = outcome_of(new_shelf, odd)[0]
            self.assertIs(error.__class__, errors.InvalidCount)
            self.assertIs(error.value, odd)

    def test_a_text_of_108_signs_and_of_109(self):
        for last, fits in [("abc", True), ("abcd", False)]:
            late = {("a",): [(1, LONG), (2, ("abcdefgh",) * 5 + (last,))]}
            text = content_text(2, late)
            shelf = [(1, 0, 0, {}), [(None, 2)], late]
            self.assertEqual(len(text), 108 if fits else 109)
            self.assertIs(is_shelf(shelf), fits)
            self.assertEqual(content_by(2, text), late)
            error, told = outcome_of(page_text, 2, late, 99999999999)
            if fits:
                self.assertEqual((told, page_by(2, told)), ("99999999999 " + text, (late, 99999999999)))
            else:
                self.assertIs(error.__class__, errors.Full)
                self.assertIs(error.value, late)
                self.assertIs(outcome_of(page_by, 2, "1 " + text)[0].__class__, errors.InvalidText)

    def test_what_counts(self):
        chance = random.Random(89)
        untidy = 0
        for _ in range(300):
            shelf = some_shelf(chance)
            for key in [some_key(chance), ("zzz",), (0,), ("on",)]:
                self.assertEqual(page_of(shelf, key), plainshelves.page_of(shelf, key))
            used = [page for low, page in shelf[1]]
            for page in range(len(shelf)):
                keys = [key for key in in_order(shelf[page]) if plainshelves.page_of(shelf, key) == page] if page in used else []
                self.assertEqual(keys_of(shelf, page), keys)
            rows = plainshelves.counting(shelf)
            newest = max([version[0] for versions in rows.values() for version in versions], default=0)
            self.assertTrue(book_in(shelf, newest) == Book(rows, newest))
            self.assertEqual(book_in(shelf, newest + 3).newest(), newest + 3)
            for odd in [newest - 1, True, None, -1]:
                if odd != 0:
                    self.assertIs(outcome_of(book_in, shelf, odd)[0].__class__, errors.InvalidCommit)
            self.assertIs(is_tidy(shelf), plainshelves.is_tidy(shelf))
            untidy += not is_tidy(shelf)
            self.assertEqual((list(pins_in(shelf).items()), root_of(shelf)), (sorted(shelf[0][3].items()), shelf[0][:3]))
        self.assertGreater(untidy, 50)


class TextTest(unittest.TestCase):
    def test_both_ways(self):
        chance = random.Random(90)
        contents = list(CONTENTS)
        for _ in range(100):
            contents.extend(enumerate(some_shelf(chance)))
        for page, content in contents:
            text = content_text(page, content)
            self.assertEqual(text, text_of(page, content))
            told = content_by(page, text)
            self.assertEqual(told, content)
            if page != 1:
                self.assertEqual(shape(told), shape(content_by(page, content_text(page, told))))
            stamp = chance.choice([0, 7, 99999999999])
            self.assertEqual(page_text(page, content, stamp), str(stamp) + " " + text)
            self.assertEqual(page_by(page, str(stamp) + " " + text), (content, stamp))
        self.assertEqual(list(content_by(0, "1 0 0;a:1;b:0")[3]), ["a", "b"])

    def test_texts_changed_in_one_place(self):
        for page, content in CONTENTS:
            text = content_text(page, content)
            for late in changed(text):
                error, told = outcome_of(content_by, page, late)
                if error is None:
                    self.assertTrue(is_content(page, told))
                    self.assertEqual(text_of(page, told), late)
                else:
                    self.assertIs(error.__class__, errors.InvalidText)
                    self.assertIs(error.value, late)
            whole = "7 " + text
            for late in changed(whole):
                error, told = outcome_of(page_by, page, late)
                if error is None:
                    self.assertEqual(str(told[1]) + " " + text_of(page, told[0]), late)
                else:
                    self.assertIs(error.__class__, errors.InvalidText)
        for late in ["", " ", "1 0", "1 0 0 0", "0 0 0", "01 0 0", "1 0 0;", "1 0 0;b:1;a:1", "1 0 0;a:1;a:1", "1 0 0;a", "-1 0 0", "1 0 a"]:
            self.assertIs(outcome_of(content_by, 0, late)[0].__class__, errors.InvalidText, late)
        for late in ["", "1", "2;3", "a>2", "2;a>1", "2;b>3;a>4", "2;a>3;a>4", "2;a>2", "2;>3", "2;a>", "2;1000000>3"]:
            self.assertIs(outcome_of(content_by, 1, late)[0].__class__, errors.InvalidText, late)
        for late in [" ", "a", "a=", "a=1", "a=0:1", "a=1:1,1:2", "a=2:1,1:2", "a=1:-1", "b=1:;a=1:", "a=1:;a=1:", "a=1:;", "=1:", "a=1: ", "a=1:1 ", "a b=1:A"]:
            self.assertIs(outcome_of(content_by, 2, late)[0].__class__, errors.InvalidText, late)
        self.assertEqual(content_by(2, "a=1:"), {("a",): [(1, ())]})

    def test_stamps_of_eleven_figures(self):
        self.assertEqual(page_text(2, {}, 99999999999), "99999999999 ")
        self.assertEqual(page_by(2, "99999999999 "), ({}, 99999999999))
        for odd in [100000000000, -1, True, None, "1"]:
            error = outcome_of(page_text, 2, {}, odd)[0]
            self.assertIs(error.__class__, errors.InvalidCount)
            self.assertIs(error.value, odd)
        for odd in ["100000000000 ", "01 ", " ", "1", "a ", "-1 ", "+1 "]:
            self.assertIs(outcome_of(page_by, 2, odd)[0].__class__, errors.InvalidText)


def changed(text):
    """Texts that differ from one in one place."""
    for at in range(len(text) + 1):
        for sign in " 0a;:=,>-\n":
            yield text[:at] + sign + text[at:]
            if at < len(text):
                yield text[:at] + sign + text[at + 1:]
        if at < len(text):
            yield text[:at] + text[at + 1:]


class MeaningTest(unittest.TestCase):
    def some_deed(self, chance, shelf):
        page, other = chance.randrange(len(shelf)), chance.randrange(len(shelf) + 1)
        number, key = chance.randint(1, 9), some_key(chance)
        if chance.random() < 0.5 and len(shelf[1]) > 1:
            key = chance.choice(shelf[1][1:])[0]
        held = tuple(sorted(chance.sample(range(8), chance.randint(0, 3))))
        words = chance.choice([
            ("put", key, chance.randint(1, 12), some_thing(chance)), ("copy", key, other), ("trim", key), ("clear", held, chance.randint(0, 8)),
            ("point", key, other), ("unpoint", key), ("pin", chance.choice(["a", "new"]), chance.randint(0, 5)), ("unpin", chance.choice(["a", "new"])),
            ("begin", chance.randint(1, 5), chance.randint(0, 5), chance.randint(0, 5))])
        page = {"point": 1, "unpoint": 1, "pin": 0, "unpin": 0, "begin": 0}.get(words[0], max(page, 2))
        reads = sorted({page, other}) if words[0] == "copy" else [page]
        return (number, page, reads, words)

    def check(self, shelf, deed, seen):
        error, told = outcome_of(made, shelf, deed)
        if not is_meant(deed, len(shelf)):
            wanted = errors.InvalidDeed
        elif plainshelves.refused(shelf, deed):
            wanted = errors.Refused
        else:
            content = content_behind(shelf, deed)
            wanted = errors.Full if len(text_of(deed[1], content)) > 108 else None
        word = deed[3][0] if is_meant(deed, len(shelf)) else None
        seen[(word, wanted)] = seen.get((word, wanted), 0) + 1
        if wanted is None:
            self.assertIsNone(error, (shelf, deed))
            self.assertEqual(shape(told), shape(content))
        else:
            self.assertIs(error.__class__, wanted, (shelf, deed))
            self.assertIs(error.value, deed)

    def test_each_form_by_chance(self):
        chance, seen = random.Random(91), {}
        for _ in range(3000):
            shelf = some_shelf(chance)
            self.check(shelf, self.some_deed(chance, shelf), seen)
        for word in ["put", "copy", "trim", "clear", "point", "unpoint", "pin", "unpin", "begin"]:
            self.assertGreater(seen.get((word, None), 0), 10, word)
        for word in ["put", "point", "unpoint", "unpin"]:
            self.assertGreater(seen.get((word, errors.Refused), 0), 5, word)
        for word in ["put"]:
            self.assertGreater(seen.get((word, errors.Full), 0), 5, word)

    def test_deeds_bent(self):
        shelf, newest = some_tidy(random.Random(3), 5, 6)
        shelf[0] = (1, 0, 0, {"a": 1})
        key = ("on", "ann")
        for deed in [(3, 2, [2], ("put", key, 50, (1,))), (3, 3, [2, 3], ("copy", key, 2)), (3, 2, [2], ("trim", key)), (3, 4, [4], ("clear", (1, 3), 2)),
                     (3, 1, [1], ("point", key, 4)), (3, 1, [1], ("unpoint", key)), (3, 0, [0], ("pin", "a", 0)), (3, 0, [0], ("unpin", "a")),
                     (3, 0, [0], ("begin", 1, 0, 0))]:
            seen = {}
            for other in [deed] + list(bent(deed)) + odd_objects():
                if type(other) is tuple and len(other) == 4 and type(other[3]) is tuple and other[3] and is_meant(other, len(shelf)):
                    self.check(shelf, other, seen)
                else:
                    error = outcome_of(made, shelf, other)[0]
                    self.assertIs(error.__class__, errors.InvalidDeed, other)
                    self.assertIs(error.value, other)

    def test_what_is_refused_and_what_is_full(self):
        shelf = [(1, 0, 0, {}), [(None, 2), (("m",), 3)], {("a",): [(4, LONG)]}, {}, {}]
        for deed, wanted in [
            ((1, 2, [2], ("put", ("a",), 4, ())), errors.Refused), ((1, 2, [2], ("put", ("a",), 3, ())), errors.Refused), ((1, 2, [2], ("put", ("a",), 5, LONG)), errors.Full),
            ((1, 1, [1], ("point", ("m",), 4)), errors.Refused), ((1, 1, [1], ("point", ("n",), 3)), errors.Refused), ((1, 1, [1], ("point", ("n",), 0)), errors.Refused),
            ((1, 1, [1], ("point", ("n",), 1)), errors.Refused), ((1, 1, [1], ("point", ("n",), 5)), errors.InvalidDeed), ((1, 1, [1], ("unpoint", ("n",))), errors.Refused),
            ((1, 0, [0], ("unpin", "a")), errors.Refused), ((1, 0, [0], ("begin", 10 ** 40, 10 ** 40, 10 ** 40)), errors.Full), ((1, 0, [0], ("pin", "a", 10 ** 110)), errors.Full),
            ((1, 5, [5], ("trim", ("a",))), errors.InvalidDeed), ((1, 4, [4, 5], ("copy", ("a",), 5)), errors.InvalidDeed),
            ((1, 2, [2, 3], ("copy", ("a",), 2)), errors.InvalidDeed), ((1, 2, [2], ("copy", ("a",), 3)), errors.InvalidDeed), ((1, 1, [1], ("trim", ("a",))), errors.InvalidDeed),
        ]:
            error = outcome_of(made, shelf, deed)[0]
            self.assertIs(error.__class__, wanted, deed)
            self.assertIs(error.value, deed)

    def test_page_2_where_it_is_not_used(self):
        shelf = [(1, 0, 0, {}), [(None, 3)], {}, {("a",): [(4, ())]}]
        self.assertEqual(made(shelf, (1, 1, [1], ("point", ("n",), 2))), [(None, 3), (("n",), 2)])
        self.assertEqual(made(shelf, (1, 2, [2, 3], ("copy", ("a",), 3))), {("a",): [(4, ())]})
        self.assertEqual(commit_deeds(shelf, 5, {("a",): LONG, ("b",): LONG}, 1)[1][3], ("copy", ("b",), 3))

    def test_behind_a_list(self):
        chance = random.Random(92)
        for _ in range(150):
            shelf, newest = some_tidy(chance, 6, 4)
            deeds = plainshelves.commit_deeds(shelf, newest + 1, {some_key(chance): LONG, some_key(chance): LONG}, 3)
            if deeds is not None:
                before = shape([shelf, deeds])
                self.assertEqual(shape(behind(shelf, deeds)), shape([self.sorted(page, content) for page, content in enumerate(plainshelves.behind(shelf, deeds))]))
                self.assertEqual(shape([shelf, deeds]), before)
        shelf = new_shelf(3)
        wrong = (2, 0, [0], ("unpin", "a"))
        for deeds, wanted, value in [
            ([(1, 0, [0], ("pin", "b", 1)), wrong, (3, 2, [2], ("no",))], errors.Refused, wrong), ([(2, 0, [0], ("pin", "b", 1)), wrong], errors.InvalidDeeds, None),
            ([(1, 2, [2], ("no",)), wrong], errors.InvalidDeed, (1, 2, [2], ("no",))), ([wrong, (3, 0, [0], ())], errors.Refused, wrong)]:
            error = outcome_of(behind, shelf, deeds)[0]
            self.assertIs(error.__class__, wanted)
            self.assertEqual(error.value, deeds if value is None else value)
        self.assertEqual(behind(shelf, []), shelf)

    def sorted(self, page, content):
        if page == 0:
            return (*content[:3], {name: content[3][name] for name in sorted(content[3])})
        return content if page == 1 else {key: content[key] for key in in_order(content)}


class CommitTest(unittest.TestCase):
    def test_behind_every_number_of_deeds(self):
        chance = random.Random(93)
        seen = {"parted": 0, "full": 0, "plain": 0, "twice": 0}
        for _ in range(500):
            shelf, newest = some_tidy(chance, chance.choice([3, 4, 6, 9]), chance.randint(0, 5))
            writes = {some_key(chance): chance.choice([some_thing(chance), LONG]) for _ in range(chance.randint(1, 5))}
            number = chance.randint(1, 9)
            deeds = plainshelves.commit_deeds(shelf, newest + 1, writes, number)
            error, told = outcome_of(commit_deeds, shelf, newest + 1, writes, number)
            if deeds is None:
                self.assertIs(error.__class__, errors.Full)
                self.assertIs(error.value, writes)
                seen["full"] += 1
                continue
            self.assertEqual(shape(told), shape(deeds))
            elder = book_in(shelf, newest)
            for many in range(len(deeds) + 1):
                late = behind(shelf, deeds[:many])
                self.assertIs(is_shelf(late), True)
                done = {deed[3][1]: deed[3][3] for deed in deeds[:many] if deed[3][0] == "put"}
                wanted = laid(elder, newest + 1, done) if done else elder
                self.assertEqual(book_in(late, newest + 1).rows(), wanted.rows())
            self.assertIs(is_tidy(late), True)
            self.assertTrue(book_in(late, newest + 1) == laid(elder, newest + 1, writes))
            parted = [deed for deed in deeds if deed[3][0] == "copy"]
            seen["parted" if parted else "plain"] += 1
            seen["twice"] += len(parted) > 1
        self.assertTrue(all(many > 15 for many in seen.values()), seen)

    def test_a_page_with_one_key_that_does_not_fit_with_two_with_three(self):
        shelf = new_shelf(6)
        one = behind(shelf, commit_deeds(shelf, 1, {("m",): LONG}, 1))
        self.assertIs(outcome_of(commit_deeds, one, 2, {("m",): LONG}, 2)[0].__class__, errors.Full)
        self.assertEqual([deed[3][:2] for deed in commit_deeds(one, 2, {("a",): LONG}, 2)],
                         [("copy", ("m",)), ("point", ("m",)), ("trim", ("m",)), ("put", ("a",))])
        self.assertEqual([deed[1:4:2] for deed in commit_deeds(one, 2, {("z",): LONG}, 2)],
                         [(3, ("copy", ("z",), 2)), (1, ("point", ("z",), 3)), (2, ("trim", ("z",))), (3, ("put", ("z",), 2, LONG))])
        two = behind(shelf, commit_deeds(shelf, 1, {("m",): ("abcdefgh",) * 3, ("p",): ("abcdefgh",) * 3}, 1))
        self.assertEqual(commit_deeds(two, 2, {("n",): LONG}, 3)[0][3], ("copy", ("n",), 2))
        self.assertEqual([deed[3][1] for deed in commit_deeds(two, 2, {("z",): LONG}, 3)], [("p",), ("p",), ("p",), ("z",)])

    def test_no_page_unused_and_a_directory_that_would_not_fit(self):
        shelf = new_shelf(3)
        full = behind(shelf, commit_deeds(shelf, 1, {("m",): LONG}, 1))
        writes = {("n",): LONG}
        error = outcome_of(commit_deeds, full, 2, writes, 9)[0]
        self.assertIs(error.__class__, errors.Full)
        self.assertIs(error.value, writes)
        keys = [("abcdefgh", "abcdefgh", "abcdefgh", "abcdefg" + last) for last in "abc"]
        wide = new_shelf(20)
        for commit, key in enumerate(keys, 1):
            deeds = commit_deeds(wide, commit, {key: ("abcdefgh",) * 6}, commit * 10)
            wide = behind(wide, deeds)
        self.assertEqual(len(content_text(1, wide[1])), 1 + 2 * 38)
        late = {("abcdefgh", "abcdefgh", "abcdefgh", "abcdefgd"): LONG}
        error = outcome_of(commit_deeds, wide, 4, late, 50)[0]
        self.assertIs(error.__class__, errors.Full)
        self.assertIs(error.value, late)
        self.assertIs(outcome_of(commit_deeds, wide, 4, {("zz",): LONG}, 50)[0], None)

    def test_errors_in_their_order(self):
        shelf = [(1, 0, 5, {}), [(None, 2)], {("a",): [(7, ())]}, {("b",): [(9, ())]}]
        writes = {("c",): ()}
        for row, wanted, value in [
            ([None, None, None, None], errors.InvalidShelf, 0), ([shelf, 9, None, None], errors.InvalidCommit, 1), ([shelf, True, None, None], errors.InvalidCommit, 1),
            ([shelf, 10, {}, None], errors.InvalidWrites, 2), ([shelf, 10, {("row",): 1}, None], errors.InvalidWrites, 2), ([shelf, 10, writes, 0], errors.InvalidCount, 3),
            ([shelf, 10, writes, True], errors.InvalidCount, 3), ([shelf, 10, writes, 1], errors.Refused, 0)]:
            error = outcome_of(commit_deeds, *row)[0]
            self.assertIs(error.__class__, wanted, row)
            self.assertIs(error.value, row[value])
        tidy = [(1, 0, 5, {}), [(None, 2)], {("a",): [(3, ())]}]
        self.assertIs(outcome_of(commit_deeds, tidy, 5, writes, 1)[0].__class__, errors.InvalidCommit)
        self.assertEqual(commit_deeds(tidy, 6, {("row", "x"): None}, 1), [(1, 2, [2], ("put", ("row", "x"), 6, None))])


class ClearAndJoinTest(unittest.TestCase):
    def test_clearings_behind_every_number_of_deeds(self):
        chance = random.Random(94)
        many_deeds = 0
        for _ in range(300):
            shelf = some_shelf(chance) if chance.random() < 0.3 else some_tidy(chance, 6, 8)[0]
            held, standing = sorted(chance.sample(range(9), chance.randint(0, 3))), chance.randint(0, 9)
            deeds = clear_deeds(shelf, held, standing, 4)
            pages = [page for page in sorted(used for low, used in shelf[1])
                     if any(plainshelves.may_go(versions, held, standing) for versions in shelf[page].values())]
            self.assertEqual(shape(deeds), shape([(4 + at, page, [page], ("clear", tuple(held), standing)) for at, page in enumerate(pages)]))
            many_deeds += len(deeds) > 1
            elder = plainshelves.counting(shelf)
            for many in range(len(deeds) + 1):
                late = behind(shelf, deeds[:many])
                rows = plainshelves.counting(late)
                for commit in held + list(range(standing, 12)):
                    self.assertEqual(plain_state(rows, commit), plain_state(elder, commit))
            if is_tidy(shelf):
                self.assertEqual(clear_deeds(late, held, standing, 1), [])
        self.assertGreater(many_deeds, 30)

    def test_joinings_behind_every_number_of_deeds(self):
        chance = random.Random(95)
        seen = {}
        for _ in range(400):
            shelf, newest = some_tidy(chance, chance.choice([4, 6, 9]), chance.randint(2, 9))
            if chance.random() < 0.7:
                shelf = behind(shelf, clear_deeds(shelf, [], newest, 1))
            deeds = join_deeds(shelf, 3)
            self.assertEqual(shape(deeds), shape(plainshelves.join_deeds(shelf, 3)))
            seen[len(deeds) // 3] = seen.get(len(deeds) // 3, 0) + 1
            for many in range(len(deeds) + 1):
                late = behind(shelf, deeds[:many])
                self.assertEqual(book_in(late, newest).rows(), book_in(shelf, newest).rows())
            self.assertIs(is_tidy(late), True)
            self.assertEqual(join_deeds(late, 1), [])
        self.assertTrue({0, 1, 2} <= set(seen), seen)

    def test_errors_in_their_order(self):
        untidy = [(1, 0, 0, {}), [(None, 2)], {}, {("b",): [(9, ())]}]
        for function, row, wanted, value in [
            (clear_deeds, [None] * 4, errors.InvalidShelf, 0), (clear_deeds, [untidy, (1,), None, None], errors.InvalidHeld, 1), (clear_deeds, [untidy, [2, 1], None, None], errors.InvalidHeld, 1),
            (clear_deeds, [untidy, list(range(11)), None, None], errors.InvalidHeld, 1), (clear_deeds, [untidy, [True], None, None], errors.InvalidHeld, 1),
            (clear_deeds, [untidy, list(range(10)), True, None], errors.InvalidSnapshot, 2), (clear_deeds, [untidy, [], 3, 0], errors.InvalidCount, 3),
            (join_deeds, [None, None], errors.InvalidShelf, 0), (join_deeds, [untidy, 0], errors.InvalidCount, 1), (join_deeds, [untidy, 1], errors.Refused, 0)]:
            error = outcome_of(function, *row)[0]
            self.assertIs(error.__class__, wanted, row)
            self.assertIs(error.value, row[value])
        self.assertEqual(clear_deeds(untidy, list(range(10)), 10 ** 20, 1), [])
        used = [(1, 0, 0, {}), [(None, 2), (("m",), 3)], {("z",): [(1, ()), (2, ())]}, {("b",): [(1, None)]}]
        # Rows that do not count are cleared, too.
        self.assertEqual([deed[1] for deed in clear_deeds(used, [], 2, 1)], [2, 3])


class RootTest(unittest.TestCase):
    def test_deeds_of_the_root(self):
        shelf = [(3, 1, 4, {"b": 1, "a": 0}), [(None, 2)], {}]
        self.assertEqual(list(pins_in(shelf).items()), [("a", 0), ("b", 1)])
        self.assertEqual(pin_deed(shelf, "c", 0, 7), (7, 0, [0], ("pin", "c", 0)))
        self.assertEqual(pin_deed(shelf, "a", 5, 7), (7, 0, [0], ("pin", "a", 5)))
        self.assertEqual(unpin_deed(shelf, "b", 1), (1, 0, [0], ("unpin", "b")))
        self.assertEqual(begin_deed(shelf, 1, 0, 0, 2), (2, 0, [0], ("begin", 1, 0, 0)))
        late = behind(shelf, [pin_deed(shelf, "c", 9, 1), unpin_deed(shelf, "a", 2), begin_deed(shelf, 8, 2, 6, 3)])
        self.assertEqual((pins_in(late), root_of(late)), ({"b": 1, "c": 9}, (8, 2, 6)))
        for function, row, wanted, value in [
            (pin_deed, [None] * 4, errors.InvalidShelf, 0), (pin_deed, [shelf, "A", None, None], errors.InvalidName, 1), (pin_deed, [shelf, "a", True, None], errors.InvalidCommit, 2),
            (pin_deed, [shelf, "a", 0, 0], errors.InvalidCount, 3), (unpin_deed, [shelf, None, None], errors.InvalidName, 1), (unpin_deed, [shelf, "c", 0], errors.InvalidCount, 2),
            (unpin_deed, [shelf, "c", 1], errors.Refused, 1), (begin_deed, [shelf, 0, None, None, None], errors.InvalidCount, 1), (begin_deed, [shelf, 1, -1, None, None], errors.InvalidCount, 2),
            (begin_deed, [shelf, 1, 0, True, None], errors.InvalidCount, 3), (begin_deed, [shelf, 1, 0, 0, 0], errors.InvalidCount, 4)]:
            error = outcome_of(function, *row)[0]
            self.assertIs(error.__class__, wanted, row)
            self.assertIs(error.value, row[value])
        crowded = [(3, 1, 4, {"abcdefg" + last: 99 for last in "abcdefgh"}), [(None, 2)], {}]
        for deed, call in [((4, 0, [0], ("pin", "abcdefgi", 999)), lambda: pin_deed(crowded, "abcdefgi", 999, 4)),
                           ((4, 0, [0], ("begin", 10 ** 20, 0, 0)), lambda: begin_deed(crowded, 10 ** 20, 0, 0, 4))]:
            with self.assertRaises(errors.Full) as caught:
                call()
            self.assertEqual(caught.exception.value, deed)

    def test_new_objects(self):
        shelf = [(3, 1, 4, {"b": 1}), [(None, 2)], {("a",): [(1, ())]}]
        before = shape(shelf)
        for told in [pins_in(shelf), behind(shelf, []), made(shelf, (1, 2, [2], ("put", ("b",), 1, ()))), behind(shelf, [(1, 0, [0], ("pin", "c", 1))]),
                     commit_deeds(shelf, 5, {("c",): ()}, 1), new_shelf(3), content_by(2, "a=1:"), keys_of(shelf, 2)]:
            spoil(told)
            self.assertEqual(shape(shelf), before)
        self.assertEqual(new_shelf(3), [(1, 0, 0, {}), [(None, 2)], {}])


if __name__ == "__main__":
    unittest.main()
