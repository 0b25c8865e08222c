"""Promises [100] to [106]: tests, wishes and deeds of tables, their texts, their answers, and the ways to these."""

import random
import unittest

from tests import plaintables
from tests.plainbooks import in_order
from tests.plaintables import composed, holds, model_of, some_state, some_test, some_worth
from tests.support import bent, errors, odd_objects, outcome_of, shape, spoil
from weavestore.questions import answer_by, answer_of, best_way, deed_of, deed_text, looked, passes, plain_answer, read_deed
from weavestore.questions import read_wish, stretches, ways, wish_text

COLUMNS = [("name", "word"), ("town", "word"), ("pay", "count")]
# Words of the texts, as names of columns, tables and indexes.
HARD = ["and", "or", "not", "find", "from", "where", "sorted", "up", "down", "first", "count", "sum", "least", "greatest", "group",
        "make", "unmake", "table", "index", "on", "put", "into", "exchange", "in", "set", "to", "erase", "word", "alone", "any",
        "is", "key", "all", "by", "row"]


def plain_test(test, around=None):
    """The text of a test, as the document words it."""
    if test[0] == "is":
        worth = f"'{test[3]}'" if type(test[3]) is str else str(test[3])
        return f"{test[1]} {test[2]} {worth}"
    if test[0] == "not":
        text = "not " + plain_test(test[1], "not")
    else:
        text = f" {test[0]} ".join(plain_test(part, test[0]) for part in test[1:])
    brackets = around == "and" and test[0] == "or" or around == "not" and test[0] in ("and", "or")
    return f"({text})" if brackets else text


def plain_where(test):
    return "" if test is None else " where " + plain_test(test)


def plain_wish(wish):
    if wish[0] == "count":
        return f"count {wish[1]}{plain_where(wish[2])}"
    if wish[0] != "find":
        return f"{wish[0]} {wish[1]} from {wish[2]}{plain_where(wish[3])}"
    word, names, table, test, order, most = wish
    text = f"find {', '.join(names)} from {table}{plain_where(test)}"
    if order is not None:
        text += f" sorted {order[0]}" + (" down" if order[1] == "down" else "")
    return text if most is None else f"{text} first {most}"


def plain_row(row):
    return "(" + ", ".join(f"'{worth}'" if type(worth) is str else str(worth) for worth in row) + ")"


def plain_deed(deed):
    word = deed[0]
    if word == "make":
        return f"make table {deed[1]} ({', '.join(' '.join(column) for column in deed[2])})"
    if word == "index":
        return f"make index {deed[1]} on {deed[2]} {deed[3]} {deed[4]}"
    if word in ("unmake", "unindex"):
        return f"unmake {'table' if word == 'unmake' else 'index'} {deed[1]}"
    if word in ("put", "exchange"):
        return f"{'put into' if word == 'put' else 'exchange in'} {deed[1]} {plain_row(deed[2])}"
    if word == "set":
        worth = f"'{deed[3]}'" if type(deed[3]) is str else str(deed[3])
        return f"set {deed[2]} to {worth} in {deed[1]}{plain_where(deed[4])}"
    return f"erase from {deed[1]}{plain_where(deed[2])}"


def some_wish(chance, columns, table, odd=0.0):
    test = None if chance.random() < 0.3 else some_test(chance, columns, 2, odd)
    name = lambda: "gone" if chance.random() < odd else chance.choice(columns)[0]
    word = chance.choice(["find", "find", "find", "count", "sum", "least", "greatest", "group"])
    if word == "count":
        return (word, table, test)
    if word != "find":
        return (word, name(), table, test)
    names = sorted({name() for _ in range(chance.randint(1, 3))}, key=lambda each: chance.random())
    order = None if chance.random() < 0.4 else (name(), chance.choice(["up", "down"]))
    return (word, names, table, test, order, chance.choice([None, None, 1, 2, 3, 99]))


def some_deed(chance, columns, table, odd, names=("ia", "ib", "ic", "id", "ie")):
    test = None if chance.random() < 0.3 else some_test(chance, columns, 1, odd)
    name = lambda: "gone" if chance.random() < odd else chance.choice(columns)[0]
    row = lambda: tuple(some_worth(chance, kind if chance.random() > odd else "word") for column, kind in columns)
    word = chance.choice(["make", "unmake", "index", "index", "unindex", "put", "put", "exchange", "exchange", "set", "set", "erase"])
    index = chance.choice(names)
    return {
        "make": lambda: (word, table, columns[: chance.randint(1, 3)]),
        "unmake": lambda: (word, table), "unindex": lambda: (word, index),
        "index": lambda: (word, index, table, name(), chance.choice(["alone", "any"])),
        "put": lambda: (word, table, row()), "exchange": lambda: (word, table, row()),
        "set": lambda: (word, table, name(), some_worth(chance, chance.choice(["word", "count"])), test),
        "erase": lambda: (word, table, test),
    }[word]()


def some_names(chance):
    """Columns, a table and an index, called plainly or as words of the texts."""
    if chance.random() < 0.5:
        return COLUMNS, chance.choice(["staff", "goods"]), "ia"
    *names, table, index = chance.sample(HARD, 5)
    return [(name, kind) for name, (column, kind) in zip(names, COLUMNS)], table, index


class PassesTest(unittest.TestCase):
    def test_by_each_sign(self):
        for worth in [0, 3, 7, 999999]:
            for sign, told in plaintables.SIGNS.items():
                for pay in [0, 2, 3, 4, 7, 999999]:
                    self.assertIs(passes(COLUMNS, ("is", "pay", sign, worth), ("ann", "ulm", pay)), told(pay, worth))
        for word in ["a", "ulm", "ulma", "uln", "zzzzzzzz"]:
            for sign, told in plaintables.SIGNS.items():
                self.assertIs(passes(COLUMNS, ("is", "town", sign, word), ("ann", "ulm", 3)), told("ulm", word))
        self.assertIs(passes(COLUMNS, None, ("ann", "ulm", 3)), True)

    def test_by_chance(self):
        chance = random.Random(61)
        for _ in range(1500):
            columns = COLUMNS[: chance.randint(1, 3)]
            test = some_test(chance, columns, 3)
            row = tuple(some_worth(chance, kind) for name, kind in columns)
            self.assertIs(passes(columns, test, row), holds(columns, test, row))

    def test_tests_that_are_none_or_do_not_fit(self):
        row = ("ann", "ulm", 3)
        leaf, late = ("is", "pay", "<", 3), ("is", "town", "=", "ulm")
        for test in [("is", "gone", "=", 3), ("is", "pay", "=", "a"), ("is", "town", "=", 3), ("is", "pay", "==", 3),
                     ("is", "pay", "<", 1000000), ("is", "pay", "<", -1), ("is", "pay", "<", True), ("is", "pay", "<"),
                     ("not",), ("not", leaf, leaf), ("not", None), ("and", leaf), ("and",), ("or", leaf), ("and", leaf, None),
                     ("and", leaf, ("and", leaf, late)), ("or", ("or", leaf, late), leaf), ["not", leaf], ("not", ["not", leaf]),
                     ("and", [leaf, late]), ("xor", leaf, late), ("is", "pay", None, 3), ("is", 3, "=", 3), "pay < 3", (), [], 3,
                     ("and", leaf, ("is", "gone", "=", 3)), ("or", leaf, ("not", ("is", "pay", "=", "a")))]:
            for function, rest in [(passes, [row]), (passes, [None]), (stretches, ["pay"]), (stretches, [None])]:
                with self.assertRaises(errors.InvalidQuestion) as caught:
                    function(COLUMNS, test, *rest)
                self.assertIs(caught.exception.value, test)
        for test in list(bent(("and", leaf, ("or", late, ("not", leaf))))) + odd_objects():
            error, told = outcome_of(passes, COLUMNS, test, row)
            self.assertEqual(error is None, plaintables.test_fits(COLUMNS, test), test)
        self.assertIs(passes(COLUMNS, ("and", leaf, ("or", ("and", leaf, late), late)), row), False)

    def test_deep_tests(self):
        test = ("is", "pay", "<", 3)
        for many in range(3000):
            test = ("not", test)
        self.assertIs(passes(COLUMNS, test, ("ann", "ulm", 2)), True)
        self.assertEqual(stretches(COLUMNS, test, "pay"), [(None, 3)])


class WishTest(unittest.TestCase):
    def test_answers_by_every_way(self):
        chance = random.Random(62)
        seen = set()
        for _ in range(900):
            state = some_state(chance)
            model = model_of(state)
            table = chance.choice(list(model) + ["gone"]) if chance.random() < 0.1 or not model else chance.choice(list(model))
            columns = model[table][0] if table in model else COLUMNS
            wish = some_wish(chance, columns, table, chance.choice([0, 0, 0, 0.3]))
            reason = plaintables.why_untold(state, wish)
            seen.add((wish[0], reason))
            if reason is not None:
                self.assertEqual(answer_of(state, plain_wish(wish)), ("untold", reason))
                for function in [plain_answer, ways, best_way]:
                    with self.assertRaises(errors.Refused) as caught:
                        function(state, wish)
                    self.assertIs(caught.exception.value, state)
                continue
            wanted = plaintables.told(state, wish)
            self.assertEqual(shape(plain_answer(state, wish)), shape(wanted), (state, wish))
            self.assertEqual(shape(answer_of(state, plain_wish(wish))), shape(("told", wanted)))
            self.check_ways(state, wish, wanted)
        self.assertTrue({("find", None), ("sum", "kind"), ("find", "column"), ("count", "table")} <= seen, seen)

    def check_ways(self, state, wish, wanted):
        table, names, test = plaintables.wish_parts(wish)
        columns, indexes, rows = model_of(state)[table]
        told = [("all",), ("key",)] + [("index", each[0]) for each in sorted(indexes)]
        self.assertEqual(shape(ways(state, wish)), shape(told))
        many = []
        for way in told:
            column = None if way[0] == "all" else columns[0][0] if way[0] == "key" else dict(
                [(each[0], each[1]) for each in indexes])[way[1]]
            read = rows
            if column is not None:
                at = [name for name, kind in columns].index(column)
                spans = stretches(columns, test, column)
                read = [row for row in rows if any((low is None or row[at] >= low) and (high is None or row[at] < high)
                                                   for low, high in spans)]
                self.assertTrue(all(row in read for row in rows if holds(columns, test, row)))
            keys = [("row", table, row[0]) for row in read]
            if way[0] == "index":
                keys += [("by", way[1], row[at], row[0]) for row in read]
            self.assertEqual(looked(state, wish, way), in_order(keys))
            many.append(len(keys))
            self.assertEqual(shape(answer_by(state, wish, way)), shape(wanted))
        self.assertEqual(best_way(state, wish), told[many.index(min(many))])

    def test_states_that_are_not_right(self):
        wrong = {("row", "staff", 1): (2,)}
        self.assertEqual(answer_of(wrong, "count staff"), ("untold", "wrong"))
        for function, rest in [(plain_answer, []), (ways, []), (best_way, []), (looked, [None]), (answer_by, [("all",)])]:
            for wish in [None, ("count", "staff", None)]:
                error, told = outcome_of(function, wrong, wish, *rest)
                self.assertIs(error.__class__, errors.InvalidQuestion if wish is None else errors.Refused)
                self.assertIs(error.value, wish if wish is None else wrong)

    def test_the_first_reason_that_holds(self):
        state = composed({"staff": (COLUMNS, [], [])})
        for text, reason in [
            ("count gone where gone = 3", "table"), ("find gone from gone", "table"), ("sum town from gone", "table"),
            ("find gone from staff where pay = 'a'", "column"), ("sum town from staff where gone = 3", "column"),
            ("find name from staff where pay = 3 and gone = 3", "column"), ("find name from staff sorted gone", "column"),
            ("find name from staff where pay = 'a'", "kind"), ("sum town from staff", "kind"),
            ("count staff where town = 3", "kind"), ("group town from staff where not town = 3", "kind"),
        ]:
            self.assertEqual(answer_of(state, text), ("untold", reason))
        self.assertEqual(answer_of({}, "count gone"), ("untold", "table"))
        self.assertEqual(answer_of(state, "least town from staff"), ("told", None))
        self.assertEqual(answer_of(state, "sum pay from staff"), ("told", 0))
        self.assertEqual(answer_of(state, "group pay from staff"), ("told", []))
        self.assertEqual(answer_of(state, "find pay from staff"), ("told", []))

    def test_rows_alike_in_the_order(self):
        rows = [("ann", "ulm", 7), ("bob", "bonn", 7), ("cid", "ulm", 3), ("dan", "bonn", 3)]
        state = composed({"staff": (COLUMNS, [], rows)})
        for text, names in [("", "abcd"), (" sorted pay", "cdab"), (" sorted pay down", "abcd"), (" sorted town", "bdac"),
                            (" sorted town down", "acbd"), (" sorted name down", "dcba"), (" first 3", "abc"),
                            (" sorted pay down first 1", "a"), (" sorted pay first 3", "cda"), (" sorted name first 9", "abcd")]:
            told = answer_of(state, "find name from staff" + text)[1]
            self.assertEqual("".join(row[0][0] for row in told), names, text)

    def test_ways_that_are_none(self):
        state = composed({"staff": (COLUMNS, [("towns", "town", "any")], []), "goods": (COLUMNS, [("pays", "pay", "any")], [])})
        wish = ("count", "staff", None)
        self.assertEqual(ways(state, wish), [("all",), ("key",), ("index", "towns")])
        odds = [("index", "pays"), ("index", "gone"), ("index",), ["all"], "all", ("all", "all"), ("keys",), ("index", "towns", 1),
                ("index", ["towns"]), ("index", None), (("all",),), [("all",)]]
        for odd in odds + [odd for odd in odd_objects() if odd not in [("all",), ("key",)]]:
            for function in [looked, answer_by]:
                with self.assertRaises(errors.InvalidQuestion) as caught:
                    function(state, wish, odd)
                self.assertIs(caught.exception.value, odd)

    def test_what_is_returned_is_new(self):
        state = composed({"staff": (COLUMNS, [("towns", "town", "any")], [("ann", "ulm", 7)])})
        wish = ("find", ["name"], "staff", None, None, None)
        for function, rest in [(plain_answer, []), (ways, []), (looked, [("all",)]), (answer_by, [("key",)])]:
            told = function(state, wish, *rest)
            again = shape(told)
            spoil(told)
            self.assertEqual(shape(function(state, wish, *rest)), again)
        told = answer_of(state, "find name from staff")
        spoil(told)
        self.assertEqual(answer_of(state, "find name from staff"), ("told", [("ann",)]))
        told = read_wish("find name from staff")
        spoil(told)
        self.assertEqual(read_wish("find name from staff"), wish)
        told = read_deed("make table a (b word)")
        spoil(told)
        self.assertEqual(read_deed("make table a (b word)"), ("make", "a", [("b", "word")]))
        told = deed_of(state, "erase from staff")
        spoil(told)
        self.assertEqual(deed_of(state, "erase from staff")[0], ("done", 1))
        self.assertEqual(len(deed_of(state, "erase from staff")[1]), 2)
        wish[1].append("pay")
        self.assertEqual(plain_answer(state, wish), [("ann", 7)])


class TextTest(unittest.TestCase):
    def wishes(self, many):
        chance = random.Random(63)
        for _ in range(many):
            columns, table, index = some_names(chance)
            yield some_wish(chance, columns, table, 0.2)

    def deeds(self, many):
        chance = random.Random(64)
        for _ in range(many):
            columns, table, index = some_names(chance)
            yield some_deed(chance, columns, table, 0.1, [index])

    def test_both_ways(self):
        for wish in self.wishes(900):
            self.assertTrue(plaintables.is_wish(wish), wish)
            self.assertEqual(wish_text(wish), plain_wish(wish))
            self.assertEqual(shape(read_wish(plain_wish(wish))), shape(wish))
        for deed in self.deeds(900):
            self.assertTrue(plaintables.is_deed(deed), deed)
            self.assertEqual(deed_text(deed), plain_deed(deed))
            self.assertEqual(shape(read_deed(plain_deed(deed))), shape(deed))

    def test_names_that_are_words_of_the_texts(self):
        for text, wish in [
            ("find from from from", ("find", ["from"], "from", None, None, None)),
            ("find not from where where not not = 1", ("find", ["not"], "where", ("not", ("is", "not", "=", 1)), None, None)),
            ("count where where not = 'a' and and = 3 or or < 4",
             ("count", "where", ("or", ("and", ("is", "not", "=", "a"), ("is", "and", "=", 3)), ("is", "or", "<", 4)))),
            ("find a from sorted sorted sorted", ("find", ["a"], "sorted", None, ("sorted", "up"), None)),
            ("find a from t sorted down", ("find", ["a"], "t", None, ("down", "up"), None)),
            ("find a from t sorted down down", ("find", ["a"], "t", None, ("down", "down"), None)),
            ("find a from t sorted first", ("find", ["a"], "t", None, ("first", "up"), None)),
            ("find a from t sorted first first 3", ("find", ["a"], "t", None, ("first", "up"), 3)),
            ("find a from first first 3", ("find", ["a"], "first", None, None, 3)),
            ("sum sum from sum where sum >= 3", ("sum", "sum", "sum", ("is", "sum", ">=", 3))),
            ("group group from group", ("group", "group", "group", None)),
            ("count count", ("count", "count", None)),
            ("count t where not not not = 3", ("count", "t", ("not", ("not", ("is", "not", "=", 3))))),
        ]:
            self.assertEqual(shape(read_wish(text)), shape(wish))
            self.assertEqual(wish_text(wish), text)
        for text, deed in [
            ("make table table (word word, count count)", ("make", "table", [("word", "word"), ("count", "count")])),
            ("make index index on on alone alone", ("index", "index", "on", "alone", "alone")),
            ("set to to 3 in in where in = 3", ("set", "in", "to", 3, ("is", "in", "=", 3))),
            ("unmake table index", ("unmake", "index")), ("unmake index table", ("unindex", "table")),
            ("put into into ('into', 3)", ("put", "into", ("into", 3))), ("exchange in in (3)", ("exchange", "in", (3,))),
            ("erase from where where from = 'a'", ("erase", "where", ("is", "from", "=", "a"))),
        ]:
            self.assertEqual(shape(read_deed(text)), shape(deed))
            self.assertEqual(deed_text(deed), text)

    def check_text(self, reader, writer, is_fine, text):
        try:
            told = reader(text)
        except errors.InvalidText as error:
            self.assertIs(error.value, text)
            return False
        self.assertTrue(is_fine(told), text)
        self.assertEqual(writer(told), text)
        return True

    def changed(self, text):
        for at in range(len(text) + 1):
            for sign in ["", " ", "(", ")", ",", "'", "0", "7", "a", "=", "<", "A", "-", "\n", "\t", "%"]:
                yield text[:at] + sign + text[at:]
                yield text[:at] + sign + text[at + 1:]
        words = text.split(" ")
        for at in range(len(words)):
            yield " ".join(words[:at] + words[at + 1:])
            yield " ".join(words[:at] + [words[at]] + words[at:])
            yield " ".join(words[:at] + ["up"] + words[at:])
            yield " ".join(words[:at] + ["not"] + words[at:])
            yield " ".join(words[:at] + ["(" + words[at] + ")"] + words[at + 1:])
            for late in range(at + 1, len(words)):
                yield " ".join(words[:at] + ["(" + " ".join(words[at: late + 1]) + ")"] + words[late + 1:])

    def test_texts_changed_in_one_place(self):
        texts = ["find name, pay from staff where town = 'ulm' and not pay < 3 sorted pay down first 10",
                 "count t where not (a = 1 or b >= 'x') and (c < 2 or d = 0)", "sum a from t where not not a = 0",
                 "group pay from staff where a = 1 and b = 2 or c = 3"]
        fine = 0
        for text in texts:
            for other in self.changed(text):
                fine += self.check_text(read_wish, plain_wish, plaintables.is_wish, other)
        self.assertGreater(fine, 100)
        texts = ["make table staff (name word, pay count)", "make index i on t c any", "put into t ('a', 10)", "unmake table t",
                 "set pay to 10 in staff where not (a = 1 and b = 2)", "erase from t where a <= 'b'", "exchange in t (1, 'b', 3)"]
        for text in texts:
            for other in self.changed(text):
                fine += self.check_text(read_deed, plain_deed, plaintables.is_deed, other)

    def test_texts_that_are_none(self):
        for text in ["", " ", "find", "find from staff", "find a from t sorted a up", "find a from t first 0", "find a from t first 03",
                     "find a, a from t", "find a , b from t", "find a,b from t", "find a from t first 3 sorted a", "count t where",
                     "count t where (a = 1)", "count t where not (a = 1)", "count t where not (not a = 1)", "count t where a = 01",
                     "count t where (a = 1 and b = 2) and c = 3", "count t where (a = 1 and b = 2) or c = 3", "count t where a = ''",
                     "count t where a = 1000000", "count t where a = -1", "count t where a = 'A'", "count t where a = 'abcdefghi'",
                     "count t where a = b", "count t where a = 1 or (b = 2 or c = 3)", "count t where a = 1 and", "count t where and",
                     "count t where ( a = 1 or b = 2) and c = 3", "count t where not(a = 1 or b = 2)", "count t where a=1",
                     "count t where a = 1 b = 2", "count t where a = 1)", "count t where (a = 1", "count t where ()", "counts t",
                     "count  t", " count t", "count t ", "count T", "count abcdefghi", "sum a, b from t", "least from t", "sum a t",
                     "Count t", "count t where a == 1", "count t where a = 1 xor b = 2", "count t where a", "count t where a =",
                     "count t where not", "find a from t sorted", "find a from t first", "find a from t sorted a down down",
                     "make table staff (a word)", "put into t (1)", "count t where a = '1'", 'count t where a = "b"']:
            with self.assertRaises(errors.InvalidText) as caught:
                read_wish(text)
            self.assertIs(caught.exception.value, text)
        for text in ["", "make table t ()", "make table t (a)", "make table t (a word, a count)", "make table t (a words)",
                     "make table t (a word, b word, c word, d word)", "make table t( a word)", "make table t (a word,b word)",
                     "make table t (a word", "make table t a word", "make index i on t c", "make index i on t c some", "make i on t c any",
                     "unmake t", "unmake table", "put into t ()", "put into t (1, 2, 3, 4)", "put into t (1,2)", "put into t ( 1)",
                     "put into t (1000000)", "put in t (1)", "put t (1)", "put into t 1", "put into t (a)", "put into t (01)",
                     "exchange into t (1)", "set c to 1000000 in t", "set c to d in t", "set c in t", "set c to 1 in t where",
                     "erase t", "erase from t where (a = 1)", "erase from t where None", "count t", "unmake index i, j",
                     "make table t (a word) ", "put into t (1) (2)", "put into t ((1))"]:
            with self.assertRaises(errors.InvalidText) as caught:
                read_deed(text)
            self.assertIs(caught.exception.value, text)

    def test_long_rows_of_brackets(self):
        for many in [50, 400, 20000]:
            for middle in ["", "a = 1", "a = 1 and b = 2"]:
                for text in ["(" * many + middle, "(" * many + middle + ")" * many, middle + ")" * many, "not (" * many + middle]:
                    for reader, begin in [(read_wish, "count t where "), (read_deed, "erase from t where "), (read_deed, "put into t ")]:
                        with self.assertRaises(errors.InvalidText):
                            reader(begin + text)
        text = "count t where " + "not " * 50 + "a = 1"
        self.assertEqual(wish_text(read_wish(text)), text)

    def test_any_object_as_a_text_a_wish_or_a_deed(self):
        for odd in odd_objects():
            for reader, text in [(read_wish, "count staff"), (read_deed, "unmake table staff")]:
                error, told = outcome_of(reader, odd)
                self.assertEqual(error is None, odd == text)
                if error is not None:
                    self.assertIs(error.__class__, errors.InvalidText)
                    self.assertIs(error.value, odd)
        wish = ("find", ["name", "pay"], "staff", ("and", ("is", "a", "=", 1), ("not", ("is", "b", "<", "x"))), ("pay", "down"), 3)
        for good in [wish, ("count", "t", None), ("sum", "a", "t", ("or", ("is", "a", "=", 1), ("is", "b", "=", 1)))]:
            for other in list(bent(good)) + odd_objects():
                error, text = outcome_of(wish_text, other)
                self.assertEqual(error is None, plaintables.is_wish(other), other)
                if error is not None:
                    self.assertIs(error.__class__, errors.InvalidQuestion)
                    self.assertIs(error.value, other)
        for good in [("make", "t", [("a", "word"), ("b", "count")]), ("unmake", "t"), ("index", "i", "t", "c", "any"), ("unindex", "i"),
                     ("put", "t", ("a", 1)), ("exchange", "t", (1,)), ("set", "t", "c", 3, ("is", "a", "=", 1)), ("erase", "t", None)]:
            for other in list(bent(good)) + odd_objects():
                error, text = outcome_of(deed_text, other)
                self.assertEqual(error is None, plaintables.is_deed(other), other)
                if error is not None:
                    self.assertIs(error.__class__, errors.InvalidRow)
                    self.assertIs(error.value, other)

    def test_great_numbers_of_rows(self):
        wish = ("find", ["a"], "t", None, None, 10**30)
        self.assertEqual(wish_text(wish), "find a from t first 1" + "0" * 30)
        self.assertEqual(read_wish(wish_text(wish)), wish)
        many = int("9" * 4000)
        self.assertEqual(read_wish("find a from t first " + "9" * 4000)[5], many)
        self.assertEqual(len(wish_text(read_wish("find a from t first " + "9" * 9000))), 20 + 9000)


class DeedTest(unittest.TestCase):
    def check(self, state, deed):
        answer, late = plaintables.acted(state, deed)
        told, writes = deed_of(state, plain_deed(deed))
        self.assertEqual(shape(told), shape(answer), (state, deed))
        self.assertEqual(shape(writes), shape({} if late is None else plaintables.least_writes(state, late)), (state, deed))
        behind = {key: thing for key, thing in {**state, **writes}.items() if thing is not None}
        if answer != ("undone", "wrong"):
            self.assertEqual(plaintables.reasons(behind), [])
        return told

    def test_by_chance(self):
        chance = random.Random(65)
        seen = {}
        for _ in range(2500):
            state = some_state(chance)
            model = model_of(state)
            table = chance.choice(list(model) or ["staff"]) if chance.random() < 0.85 else "goods"
            columns = model[table][0] if table in model else COLUMNS[:2]
            deed = some_deed(chance, columns, table, chance.choice([0.05, 0.3]))
            told = self.check(state, deed)
            seen[(deed[0], told[0] if told[0] == "done" else told[1])] = 1
        for word in ["make", "unmake", "index", "unindex", "put", "exchange", "set", "erase"]:
            self.assertIn((word, "done"), seen)
        for each in [("make", "table"), ("unmake", "table"), ("index", "table"), ("index", "index"), ("index", "column"),
                     ("index", "double"), ("unindex", "index"), ("put", "table"), ("put", "kind"), ("put", "row"),
                     ("put", "double"), ("exchange", "row"), ("exchange", "double"), ("exchange", "kind"), ("set", "table"),
                     ("set", "column"), ("set", "kind"), ("set", "double"), ("erase", "column"), ("erase", "kind")]:
            self.assertIn(each, seen)

    def test_states_that_are_not_right(self):
        wrong = {("row", "staff", 1): (2,)}
        for text in ["make table a (b word)", "unmake table gone", "unmake index gone", "put into gone (1)", "erase from gone"]:
            self.assertEqual(deed_of(wrong, text), (("undone", "wrong"), {}))
        self.assertEqual(deed_of({("on", "ann"): (1,)}, "make table a (b word)"), (("done", 0), {("table", "a"): ("b", "word")}))

    def test_the_first_reason_that_holds(self):
        state = composed({"staff": (COLUMNS, [("pays", "pay", "alone")], [("ann", "ulm", 7), ("bob", "bonn", 5), ("cid", "ulm", 3)]),
                          "goods": ([("item", "count")], [], [(1,)])})
        for text, told in [
            ("make index pays on gone gone any", "table"), ("make index pays on staff gone any", "index"),
            ("make index late on staff gone any", "column"), ("make index late on staff name any", "column"),
            ("make index late on staff pay any", "column"), ("make index late on staff town alone", "double"),
            ("make index late on goods item alone", "column"), ("unmake index late", "index"), ("unmake index staff", "index"),
            ("make table staff (a word)", "table"), ("unmake table pays", "table"), ("put into gone (1, 1)", "table"),
            ("put into staff ('ann', 'ulm')", "kind"), ("put into staff (1, 'ulm', 7)", "kind"),
            ("put into staff ('ann', 'bonn', 5)", "row"), ("put into staff ('eve', 'ulm', 7)", "double"),
            ("exchange in gone (1)", "table"), ("exchange in staff ('eve', 7, 7)", "kind"),
            ("exchange in staff ('eve', 'ulm', 7)", "row"), ("exchange in staff ('ann', 'ulm', 5)", "double"),
            ("set gone to 'a' in gone", "table"), ("set gone to 'a' in staff where pay = 'a'", "column"),
            ("set name to 3 in staff where pay = 'a'", "column"), ("set pay to 3 in staff where gone = 'a'", "column"),
            ("set pay to 'a' in staff", "kind"), ("set pay to 3 in staff where town = 3", "kind"), ("set pay to 3 in staff", "double"),
            ("set pay to 9 in staff where town = 'ulm'", "double"), ("set pay to 5 in staff where name = 'ann'", "double"),
            ("erase from gone where gone = 1", "table"), ("erase from staff where gone = 1", "column"),
            ("erase from staff where pay = 'a' or gone = 3", "column"), ("erase from staff where pay = 'a'", "kind"),
        ]:
            self.assertEqual(deed_of(state, text), (("undone", told), {}), text)
            self.check(state, read_deed(text))

    def test_how_many(self):
        rows = [("ann", "ulm", 7), ("bob", "bonn", 5), ("cid", "ulm", 3)]
        state = composed({"staff": (COLUMNS, [("pays", "pay", "alone"), ("towns", "town", "any")], rows)})
        for text, many, writes in [
            ("put into staff ('eve', 'ulm', 8)", 1, 3), ("exchange in staff ('ann', 'ulm', 7)", 1, 0),
            ("exchange in staff ('ann', 'ulm', 9)", 1, 3), ("exchange in staff ('ann', 'bonn', 9)", 1, 5),
            ("set town to 'ulm' in staff", 1, 3), ("set town to 'ulm' in staff where pay > 4", 1, 3),
            ("set town to 'rom' in staff", 3, 9), ("set pay to 7 in staff where name = 'ann'", 0, 0),
            ("set pay to 9 in staff where pay > 6", 1, 3), ("set pay to 999999 in staff where pay > 6", 1, 3),
            ("erase from staff", 3, 9), ("erase from staff where town = 'ulm'", 2, 6), ("erase from staff where pay > 8", 0, 0),
            ("unmake table staff", 3, 12), ("unmake index towns", 0, 4), ("make table late (a word)", 0, 1),
            ("set pay to 3 in staff where pay < 4", 0, 0),
        ]:
            told = deed_of(state, text)
            self.assertEqual((told[0], len(told[1])), (("done", many), writes), text)
            self.check(state, read_deed(text))
        late = {key: thing for key, thing in state.items() if key[:2] not in [("index", "towns"), ("by", "towns")]}
        self.assertEqual(deed_of(late, "make index towns on staff town any")[1], {
            ("by", "towns", "bonn", "bob"): (), ("by", "towns", "ulm", "ann"): (), ("by", "towns", "ulm", "cid"): (),
            ("index", "towns"): ("staff", "town", "any")})
        self.assertEqual(deed_of({}, "make table t (a word, b count)"), (("done", 0), {("table", "t"): ("a", "word", "b", "count")}))


class StretchesTest(unittest.TestCase):
    def before(self, worth):
        """The greatest worth below one."""
        if type(worth) is int:
            return worth - 1
        return worth[:-1] if worth[-1] == "a" else (worth[:-1] + chr(ord(worth[-1]) - 1)).ljust(8, "z")

    def after(self, worth):
        if type(worth) is int:
            return worth + 1
        if len(worth) < 8:
            return worth + "a"
        kept = worth.rstrip("z")
        return kept[:-1] + chr(ord(kept[-1]) + 1)

    def lies(self, test, column, worth, turned=False):
        """Whether a worth is in the stretches, each "not" put inside by hand."""
        if test is None:
            return True
        if test[0] == "is":
            return test[1] != column or plaintables.SIGNS[test[2]](worth, test[3]) != turned
        if test[0] == "not":
            return self.lies(test[1], column, worth, not turned)
        parts = [self.lies(part, column, worth, turned) for part in test[1:]]
        return all(parts) if (test[0] == "and") != turned else any(parts)

    def check(self, columns, test, column):
        kind = dict(columns)[column]
        least, greatest = (0, 999999) if kind == "count" else ("a", "zzzzzzzz")
        points = {least, greatest} | {leaf[3] for leaf in plaintables.leaves(test) if leaf[1] == column}
        points |= {self.after(point) for point in points if point != greatest}
        points |= {self.before(point) for point in points if point != least}
        points = sorted(points)
        spans, begin = [], None
        # Between two of these points, each with its neighbours, nothing turns.
        for point in points:
            inside = self.lies(test, column, point)
            if inside and begin is None:
                begin = point
            if not inside and begin is not None:
                spans.append((begin, point))
                begin = None
        spans += [] if begin is None else [(begin, None)]
        wanted = [(None if low == least else low, high) for low, high in spans]
        self.assertEqual(shape(stretches(columns, test, column)), shape(wanted), (test, column))

    def test_by_chance(self):
        chance = random.Random(66)
        worths = {"count": [0, 1, 2, 3, 7, 999998, 999999], "word": ["a", "aa", "b", "ulm", "ulma", "zzzzzzzy", "zzzzzzzz", "azzzzzzz"]}
        for _ in range(3000):
            columns = COLUMNS[: chance.randint(1, 3)]
            test = None if chance.random() < 0.02 else some_test(chance, columns, 3)

            def turned(part):
                if part[0] == "is":
                    return part[:3] + (chance.choice(worths[dict(columns)[part[1]]]),)
                return (part[0], *[turned(each) for each in part[1:]])

            test = None if test is None else turned(test)
            for column, kind in columns:
                self.check(columns, test, column)

    def test_each_sign_at_the_ends(self):
        for column, worths in [("pay", [0, 1, 999998, 999999]), ("town", ["a", "b", "zzzzzzzy", "zzzzzzzz", "azzzzzzz"])]:
            for worth in worths:
                for sign in plaintables.SIGNS:
                    test = ("is", column, sign, worth)
                    for each in [test, ("not", test), ("not", ("not", test)), ("or", test, ("not", test)), ("and", test, ("not", test))]:
                        self.check(COLUMNS, each, column)
                        self.check(COLUMNS, each, "name")

    def test_the_words_of_the_document(self):
        for test, wanted in [
            (None, [(None, None)]), (("is", "pay", "=", 0), [(None, 1)]), (("is", "pay", "=", 999999), [(999999, None)]),
            (("is", "pay", "<", 0), []), (("is", "pay", ">", 999999), []), (("is", "pay", ">=", 0), [(None, None)]),
            (("is", "pay", "<=", 999999), [(None, None)]), (("not", ("is", "pay", "=", 3)), [(None, 3), (4, None)]),
            (("or", ("is", "pay", "<=", 3), ("is", "pay", ">", 3)), [(None, None)]),
            (("or", ("is", "pay", "=", 3), ("is", "pay", "=", 4)), [(3, 5)]),
            (("or", ("is", "pay", "=", 3), ("is", "pay", "=", 5)), [(3, 4), (5, 6)]),
            (("and", ("is", "pay", ">", 3), ("is", "pay", "<", 3)), []),
            (("or", ("is", "town", "=", "a"), ("is", "pay", "=", 3)), [(None, None)]),
            (("not", ("or", ("is", "town", "=", "a"), ("is", "pay", "=", 3))), [(None, 3), (4, None)]),
            (("not", ("and", ("is", "town", "=", "a"), ("is", "pay", "=", 3))), [(None, None)]),
        ]:
            self.assertEqual(shape(stretches(COLUMNS, test, "pay")), shape(wanted))

    def test_columns_that_are_none(self):
        for odd in odd_objects() + ["gone", ("pay", "count")]:
            with self.assertRaises(errors.InvalidQuestion) as caught:
                stretches(COLUMNS, None, odd)
            self.assertIs(caught.exception.value, odd)
        for odd in odd_objects() + [[], COLUMNS + [("more", "word")], tuple(COLUMNS), [["name", "word"]], [("name", "words")],
                                    [("name", "word"), ("name", "count")], [("Name", "word")], [("name",)], [(1, "word")]]:
            for function, rest in [(stretches, [3, 3]), (passes, [3, 3])]:
                error, told = outcome_of(function, odd, *rest)
                fine = plaintables.are_columns(odd)
                self.assertIs(error.__class__, errors.InvalidQuestion if fine else errors.InvalidTable)
                self.assertIs(error.value, rest[0] if fine else odd)


if __name__ == "__main__":
    unittest.main()
