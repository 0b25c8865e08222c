"""What the calls of clearing, tables, questions and transactions do with what they are passed."""

import copy
import unittest

from tests import plainbooks, plaintables, support
from tests.arguments import HELD, ArgumentsCheck, judged, unless, unless_with
from tests.plaintables import composed, model_of
from tests.support import ascend_below, errors, is_count
from tests.test_questions import plain_deed, plain_wish
from weavestore.questions import read_deed, read_wish
from weavestore.transactions import Weave
from weavestore.versions import Book

COLUMNS = [("name", "word"), ("pay", "count")]
STATE = composed({"staff": (COLUMNS, [("pays", "pay", "alone")], [("ann", 7), ("bob", 5)])})
STATE[("on", "ann")] = (1,)
LEAF = ("is", "pay", "<", 6)
WISH = ("find", ["name"], "staff", ("or", LEAF, ("not", LEAF)), ("pay", "down"), 2)
BOOK = Book({("a",): [(1, (1,)), (3, None)], ("b", 2): [(2, ())]}, 4)


def made(value):
    return lambda: copy.deepcopy(value)


def make_weave():
    """A weave with a reader "r", a writer "w" with looks and writes, and one that would be refused."""
    weave = Weave(Book({key: [(1, thing)] for key, thing in STATE.items()}, 3), 1)
    weave.begin("r", "reader")
    weave.ask("r", ("many", ("a",), ("z",)))
    for name in ["w", "x", "y"]:
        weave.begin(name, "writer")
        weave.ask(name, ("between", ("on",), ("oo",)))
    weave.put("y", ("on", "cid"), (3,))
    weave.end("y")
    weave.deed("w", "put into staff ('cid', 9)")
    weave.drop("x", ("on", "ann"))
    weave.stand(2)
    return weave


def is_state_right(value):
    return model_of(value) is not None


def judge_right(value, given):
    if not plainbooks.is_state(value):
        return errors.InvalidState
    return None if is_state_right(value) else (errors.Refused, value)


def table_of(value, given):
    return plainbooks.is_word(value) and value in model_of(given["state"])


def elder_of(value, given):
    return value is None or support.is_in(value, model_of(given["state"])[given["table"]][2])


def newer_of(value, given):
    columns, indexes, rows = model_of(given["state"])[given["table"]]
    if value is None:
        return given["elder"] is not None
    if not plaintables.is_row(value, columns):
        return False
    if given["elder"] is not None and given["elder"][0] != value[0]:
        return False
    late = [row for row in rows if row != given["elder"]]
    taken = [0] + [place for place, (column, kind) in enumerate(columns)
                   if [each for each in indexes if each[1] == column and each[2] == "alone"]]
    return all(row[place] != value[place] for row in late for place in taken)


def index_kind(given):
    for columns, indexes, rows in model_of(given["state"]).values():
        for index, column, manner in indexes:
            if index == given["index"]:
                return dict(columns)[column]
    return None


def index_of(value, given):
    return plainbooks.is_word(value) and index_kind({**given, "index": value}) is not None


def bound_of(value, given):
    return value is None or plainbooks.is_part(value) and plaintables.kind_of(value) == index_kind(given)


def fitting_test(value, given):
    return plaintables.test_fits(given["columns"], value)


def row_of(value, given):
    return plaintables.is_row(value, given["columns"])


def column_of(value, given):
    return plainbooks.is_word(value) and value in dict(given["columns"])


def wish_unfit(given):
    return (errors.Refused, given["state"]) if plaintables.why_untold(given["state"], given["wish"]) else None


def judge_way(value, given):
    """Behind all of the wish, the state refused ahead of the way."""
    if wish_unfit(given):
        return wish_unfit(given)
    table, names, test = plaintables.wish_parts(given["wish"])
    indexes = [("index", index) for index, column, manner in model_of(given["state"])[table][1]]
    return None if support.is_in(value, [("all",), ("key",)] + indexes) else errors.InvalidQuestion


def is_text_of(reader, writer):
    def fits(value):
        if type(value) is not str:
            return False
        try:
            return writer(reader(value)) == value
        except errors.InvalidText:
            return False

    return fits


IS_WISH_TEXT = is_text_of(read_wish, plain_wish)
IS_DEED_TEXT = is_text_of(read_deed, plain_deed)


def is_question(value):
    if type(value) is not tuple or not value or type(value[0]) is not str:
        return False
    if value[0] == "find":
        return len(value) == 2 and IS_WISH_TEXT(value[1])
    many = {"look": 2, "first": 2, "between": 3, "many": 3, "any": 3}.get(value[0])
    return many == len(value) and all(plainbooks.is_key(key) for key in value[1:])


def is_plain_key(value):
    return plainbooks.is_key(value) and value[0] not in plaintables.WORDS


def under_way(value, given):
    return plainbooks.is_word(value) and value in given["self"].under_way()


def judge_writer(value, given):
    if not under_way(value, given):
        return errors.InvalidName
    return errors.InvalidKind if value == "r" else None


def later_commit(value, given):
    weave = given["self"]
    return is_count(value) and weave.standing() <= value <= weave.newest()


def is_outcome(value):
    if type(value) is not tuple or not value or type(value[0]) is not str:
        return False
    if value[0] == "refused":
        return len(value) == 4 and is_count(value[1])
    least = {"ended": 0, "committed": 1}.get(value[0])
    return least is not None and len(value) == 2 and is_count(value[1]) and value[1] >= least


def held_of(book):
    return lambda value, given: ascend_below(value, given[book].newest() + 1)


def standing_of(book):
    return lambda value, given: is_count(value) and value <= given[book].newest()


def is_book(value):
    return type(value) is Book


def version_of(value, given):
    return is_count(value) and value in [number for number, thing in given["book"].rows().get(given["key"], [])]


CLEARING = [("book", lambda: BOOK, unless(errors.InvalidBook, is_book)),
            ("held", made([0, 2]), unless_with(errors.InvalidHeld, held_of("book"))),
            ("standing", made(3), unless_with(errors.InvalidSnapshot, standing_of("book")))]
IN_STATE = ("state", made(STATE), unless(errors.InvalidState, plainbooks.is_state))
IN_RIGHT = ("state", made(STATE), judge_right)
IN_KEY = ("key", made(("on", "ann")), unless(errors.InvalidKey, plainbooks.is_key))
FITTING = [("columns", made(COLUMNS), unless(errors.InvalidTable, plaintables.are_columns)),
           ("test", made(WISH[3]), unless_with(errors.InvalidQuestion, fitting_test))]
IN_WISH = ("wish", made(WISH), unless(errors.InvalidQuestion, plaintables.is_wish))
WAY = ("way", made(("index", "pays")), judge_way)
WISH_TEXT = ("text", made("find name from staff where pay < 6"), unless(errors.InvalidText, IS_WISH_TEXT))
DEED_TEXT = ("text", made("set pay to 9 in staff where not pay < 6"), unless(errors.InvalidText, IS_DEED_TEXT))
QUESTION = ("question", made(("between", ("on",), ("oo",))), unless(errors.InvalidQuestion, is_question))
SELF = ("self", make_weave, HELD)
NAME = ("name", made("w"), unless_with(errors.InvalidName, under_way))
WRITER = ("name", made("w"), judge_writer)
PLAIN_KEY = ("key", made(("on", "bob")), unless(errors.InvalidKey, is_plain_key))

SPECS = [
    ("clearing", "may_go", CLEARING),
    ("clearing", "must_stay", CLEARING),
    ("clearing", "cleared", CLEARING),
    ("clearing", "who_sees", [*CLEARING, ("key", made(("a",)), IN_KEY[2]),
                              ("number", made(3), unless_with(errors.InvalidCommit, version_of))]),
    ("clearing", "is_same_for", [
        ("one", lambda: BOOK, unless(errors.InvalidBook, is_book)),
        ("other", lambda: Book({("a",): [(1, (1,))]}, 1), unless(errors.InvalidBook, is_book)),
        ("held", made([0, 2]), unless_with(errors.InvalidHeld, held_of("one"))),
        ("standing", made(3), unless_with(errors.InvalidSnapshot, standing_of("one")))]),
    ("clearing", "is_cleared", CLEARING),
    ("tables", "is_right", [IN_STATE]),
    ("tables", "forms", [IN_RIGHT]),
    ("tables", "tables", [IN_RIGHT]),
    ("tables", "row_writes", [IN_RIGHT, ("table", made("staff"), unless_with(errors.InvalidTable, table_of)),
                              ("elder", made(("ann", 7)), unless_with(errors.InvalidRow, elder_of)),
                              ("newer", made(("ann", 8)), unless_with(errors.InvalidRow, newer_of))]),
    ("tables", "behind", [IN_KEY]),
    ("tables", "by_index", [IN_RIGHT, ("index", made("pays"), unless_with(errors.InvalidTable, index_of)),
                            ("low", made(5), unless_with(errors.InvalidRow, bound_of)),
                            ("high", made(None), unless_with(errors.InvalidRow, bound_of))]),
    ("tables", "why_wrong", [IN_STATE]),
    ("tables", "is_why_wrong", [IN_STATE, ("value", made(("strange", ("row", "a"))), judged)]),
    ("tables", "is_table_key", [IN_KEY]),
    ("questions", "passes", [*FITTING, ("row", made(("ann", 7)), unless_with(errors.InvalidRow, row_of))]),
    ("questions", "plain_answer", [IN_STATE, IN_WISH], wish_unfit),
    ("questions", "wish_text", [IN_WISH]),
    ("questions", "read_wish", [WISH_TEXT]),
    ("questions", "answer_of", [IN_STATE, WISH_TEXT]),
    ("questions", "deed_text", [("deed", made(("set", "staff", "pay", 9, LEAF)), unless(errors.InvalidRow, plaintables.is_deed))]),
    ("questions", "read_deed", [DEED_TEXT]),
    ("questions", "deed_of", [IN_STATE, DEED_TEXT]),
    ("questions", "stretches", [*FITTING, ("column", made("pay"), unless_with(errors.InvalidQuestion, column_of))]),
    ("questions", "ways", [IN_STATE, IN_WISH], wish_unfit),
    ("questions", "looked", [IN_STATE, IN_WISH, WAY]),
    ("questions", "answer_by", [IN_STATE, IN_WISH, WAY]),
    ("questions", "best_way", [IN_STATE, IN_WISH], wish_unfit),
    ("transactions", "is_question", [("value", made(("find", "count staff")), judged)]),
    ("transactions", "answer", [IN_STATE, QUESTION]),
    ("transactions", "laid_over", [IN_STATE, ("writes", made({("b",): None, ("a", 1): (1,)}),
                                              unless(errors.InvalidWrites, plainbooks.are_writes))]),
    ("transactions", "Weave", [("book", lambda: BOOK, unless(errors.InvalidBook, is_book)),
                               ("standing", made(3), unless_with(errors.InvalidSnapshot, standing_of("book")))]),
    ("transactions", "Weave.book", [SELF]),
    ("transactions", "Weave.standing", [SELF]),
    ("transactions", "Weave.newest", [SELF]),
    ("transactions", "Weave.under_way", [SELF]),
    ("transactions", "Weave.held", [SELF]),
    ("transactions", "Weave.copy", [SELF]),
    ("transactions", "Weave.begin", [
        SELF, ("name", made("new"), unless_with(
            errors.InvalidName, lambda value, given: plainbooks.is_word(value) and not under_way(value, given))),
        ("kind", made("reader"), unless(errors.InvalidKind, lambda value: type(value) is str and value in ("reader", "writer")))]),
    ("transactions", "Weave.ask", [SELF, NAME, QUESTION]),
    ("transactions", "Weave.put", [SELF, WRITER, PLAIN_KEY, ("thing", made((1, "a")), unless(errors.InvalidThing, plainbooks.is_thing))]),
    ("transactions", "Weave.drop", [SELF, WRITER, PLAIN_KEY]),
    ("transactions", "Weave.deed", [SELF, WRITER, ("text", DEED_TEXT[1], unless(errors.InvalidQuestion, IS_DEED_TEXT))]),
    ("transactions", "Weave.give_up", [SELF, NAME]),
    ("transactions", "Weave.end", [SELF, ("name", made("x"), NAME[2])]),
    ("transactions", "Weave.would_end", [SELF, NAME]),
    ("transactions", "Weave.looks_of", [SELF, NAME]),
    ("transactions", "Weave.writes_of", [SELF, NAME]),
    ("transactions", "Weave.turned_looks", [SELF, NAME]),
    ("transactions", "Weave.stand", [SELF, ("number", made(3), unless_with(errors.InvalidSnapshot, later_commit))]),
    ("transactions", "Weave.fall", [SELF, ("number", made(3), unless_with(errors.InvalidSnapshot, later_commit))]),
    ("transactions", "Weave.clear", [SELF, ("pins", made([0, 3]), unless_with(errors.InvalidHeld, held_of("self")))]),
    ("transactions", "Weave.is_told", [SELF, ("outcome", made(("refused", 0, [1], None)),
                                              unless(errors.InvalidTransaction, is_outcome))]),
]


class TablesArgumentsTest(ArgumentsCheck, unittest.TestCase):
    specs = SPECS

    def test_is_question_by_any_object(self):
        function = support.function_of("transactions", "is_question")
        goods = [("look", ("a",)), ("between", ("a",), ("b", 1)), ("many", ("b",), ("a",)), ("any", (0,), (0,)), ("first", ("a",)),
                 ("find", "count staff")]
        for good in goods:
            self.assertIs(function(good), True)
            for other in list(support.bent(good)) + support.odd_objects():
                self.assertIs(function(other), is_question(other), other)
        for other in [("find", "count staff "), ("find", "erase from staff"), ("find", ("count", "staff", None)), ("between", ("a",)),
                      ("look", ("A",)), ("find",), ("looks", ("a",)), ["look", ("a",)], ("look", ["a"]), ("look", (True,))]:
            self.assertIs(function(other), False)


if __name__ == "__main__":
    unittest.main()
