"""What the calls of histories, weavings, hangs and differences do with what they are passed."""

import unittest

from tests import plainbooks, plaintables, test_differences, test_hangs
from tests.arguments import HELD, ArgumentsCheck, judged, unless, unless_with
from tests.plainhistories import Plain, are_programs, is_history, is_program
from tests.support import errors, is_count
from tests.test_arguments_tables import IN_STATE, IN_WISH, is_book, made, model_of, wish_unfit
from tests.test_weavings import Turns
from weavestore.hangs import Standing, kept
from weavestore.versions import Book

ANN, ON, OO, N = ("on", "ann"), ("on",), ("oo",), ("n",)
DAY = [("begin", "a", "writer"), ("ask", "a", ("between", ON, OO), []), ("put", "a", ANN, (1, "x")), ("begin", "b", "writer"),
       ("ask", "b", ("any", ON, OO), False), ("drop", "b", N), ("end", "a", ("committed", 1)), ("end", "b", ("refused", 0, False, True)),
       ("stand",), ("begin", "r", "reader"), ("ask", "r", ("first", ON), (ANN, (1, "x"))), ("end", "r", ("ended", 1)), ("fall", 1)]
PROGRAMS = [[("ask", "x", ("look", N)), ("unless", "x", None, 1), ("put", N, (1, ("more", "x", 1)))], [("drop", ANN), ("ask", "y", ("many", ON, OO))]]
STATE = {ANN: (1,), ("a", 2): ("b",)}
RIGHT = test_hangs.STATE
WISH = ("find", ["name"], "staff", ("not", ("is", "pay", "<", 6)), ("pay", "down"), 2)
CHANGE = ("staff", ("ann", "ulm", 7), ("ann", "ulm", 9))
CHANGES = [CHANGE, ("goods", None, (4,))]
BOOK = Book({("a",): [(1, (1,)), (3, None)], ("b", 2): [(2, ())]}, 4)
DIFFERENCE = [(("a",), (1,), None), (("c",), None, ())]


def refused_history(given):
    return (errors.Refused, given["history"]) if Plain(given["history"]).wrong is not None else None


def is_order(value, given):
    """Whether it is a whole order, turn by turn."""
    if type(value) is not list or not all(is_count(place) and place < len(given["programs"]) for place in value):
        return False
    turns = Turns(given["state"], given["programs"])
    for place in value:
        if place in turns.ranks:
            return False
        turns.turn(place)
    return len(turns.ranks) == len(given["programs"])


def is_row_of(value, given):
    if type(value) is not list or not all(is_count(place) and place < len(given["programs"]) for place in value):
        return False
    return len(set(value)) == len(value)


def fits_columns(value, given):
    if not plaintables.is_wish(value):
        return False
    table = plaintables.wish_parts(value)[0]
    return plaintables.why_untold(plaintables.composed({table: (given["columns"], [], [])}), value) is None


def is_change(value, tables):
    if type(value) is not tuple or len(value) != 3 or not plainbooks.is_word(value[0]):
        return False
    rows = [row for row in value[1:] if row is not None]
    for row in rows:
        if type(row) is not tuple or not 1 <= len(row) <= 3 or not all(plainbooks.is_part(part) for part in row):
            return False
        if value[0] in tables and not plaintables.is_row(row, tables[value[0]]):
            return False
    return len(rows) == 1 or len(rows) == 2 and rows[0] != rows[1] and rows[0][0] == rows[1][0]


def are_changes(value, tables):
    if type(value) is not list or not all(is_change(change, tables) for change in value):
        return False
    return len({(change[0], (change[1] or change[2])[0]) for change in value}) == len(value)


def changes_fit(value, given):
    if "columns" in given:
        return are_changes(value, {plaintables.wish_parts(given["wish"])[0]: given["columns"]})
    return are_changes(value, plaintables.there(given["state"])[0])


def has_elders(tables, changes):
    """Whether the elder rows are just what the tables of a model have."""
    for table, elder, newer in changes:
        if table not in tables or [row for row in tables[table][2] if row[0] == (elder or newer)[0]] != [row for row in [elder] if row]:
            return False
    return True


def refused_changes(given):
    if wish_unfit(given) or not has_elders(model_of(given["state"]), given["changes"]):
        return (errors.Refused, given["state"])
    return None


def change_fits(value, given):
    table = plaintables.wish_parts(given["wish"])[0]
    return is_change(value, {table: given["columns"]}) and value[0] == table


def is_kept(wish, value):
    """Whether it can be kept of a wish by its form, told part by part."""
    if type(value) is not list or not all(type(part) is tuple and len(part) == 2 for part in value):
        return False
    keys = [part[0] for part in value]
    if not are_alike(keys) or sorted(set(keys)) != keys:
        return False
    if wish[0] == "count":
        return all(part[1] is None for part in value)
    if wish[0] != "find":
        return are_alike([part[1] for part in value]) and (wish[0] != "sum" or all(is_count(part[1]) for part in value))
    for key, given in value:
        if type(given) is not tuple or len(given) != 2 or type(given[0]) is not tuple or len(given[0]) != len(wish[1]):
            return False
        if not all(plainbooks.is_part(part) for part in given[0]) or wish[4] is None and given[1] is not None:
            return False
    return wish[4] is None or are_alike([part[1][1] for part in value])


def are_alike(worths):
    return all(plainbooks.is_part(worth) for worth in worths) and len({type(worth) for worth in worths}) < 2


def kept_fits(value, given):
    """Likewise, of the kinds of the columns, too."""
    if not is_kept(given["wish"], value):
        return False
    if "columns" not in given:
        return True
    kinds, wish = dict(given["columns"]), given["wish"]
    for key, told in value:
        worths = [(given["columns"][0][0], key)]
        if wish[0] == "find":
            worths += list(zip(wish[1], told[0])) + ([] if wish[4] is None else [(wish[4][0], told[1])])
        elif wish[0] != "count":
            worths.append((wish[1], told))
        if not all(plaintables.kind_of(worth) == kinds[column] for column, worth in worths):
            return False
    return True


def are_wishes(value):
    return type(value) is dict and all(plainbooks.is_word(name) and plaintables.is_wish(value[name]) for name in value)


def refused_wishes(given):
    state = given["state"]
    fits = model_of(state) is not None and all(plaintables.why_untold(state, wish) is None for wish in given["wishes"].values())
    return None if fits else (errors.Refused, state)


def make_standing():
    return Standing(RIGHT, {"a": WISH, "b": ("count", "goods", None)})


def judge_lead(value, given):
    if not are_changes(value, {table: held[0] for table, held in test_hangs.STAFF.items()}):
        return errors.InvalidRow
    return None if has_elders(test_hangs.STAFF, value) else errors.Refused


def refused_forms(given):
    one, other = model_of(given["one"]), model_of(given["other"])
    forms = [None if model is None else {table: (held[0], sorted(held[1])) for table, held in model.items()} for model in [one, other]]
    return (errors.Refused, given["other"]) if None in forms or forms[0] != forms[1] else None


def commit_of(value, given):
    return is_count(value) and value <= given["book"].newest()


def elders_fit(given):
    return None if all(given["state"].get(key) == elder for key, elder, newer in given["difference"]) else (errors.Refused, given["difference"])


def one_behind_refused(given):
    newer = {key: late for key, elder, late in given["first"]}
    fits = all(newer[key] == elder for key, elder, late in given["second"] if key in newer)
    return None if fits else (errors.Refused, given["second"])


def both_refused(given):
    held = {key: (elder, late) for key, elder, late in given["first"]}
    fits = all(held[key] == (elder, late) for key, elder, late in given["second"] if key in held)
    return None if fits else (errors.Refused, given["second"])


HISTORY = ("history", made(DAY), unless(errors.InvalidHistory, is_history))
PLAIN_STATE = ("state", made(STATE), IN_STATE[2])
IN_PROGRAMS = ("programs", made(PROGRAMS), unless(errors.InvalidPrograms, are_programs))
RIGHT_STATE = ("state", made(RIGHT), IN_STATE[2])
GOOD_WISH = ("wish", made(WISH), IN_WISH[2])
COLUMNS = ("columns", made(test_hangs.COLUMNS), unless(errors.InvalidTable, plaintables.are_columns))
FITTING_WISH = ("wish", made(WISH), unless_with(errors.InvalidQuestion, fits_columns))
IN_HELD = ("held", lambda: kept(RIGHT, WISH), unless_with(errors.InvalidWrites, kept_fits))
IN_CHANGES = ("changes", made(CHANGES), unless_with(errors.InvalidRow, changes_fit))
IN_CHANGE = ("change", made(CHANGE), unless_with(errors.InvalidRow, change_fits))
IN_BOOK = ("book", lambda: BOOK, unless(errors.InvalidBook, is_book))
IN_DIFFERENCE = ("difference", made(DIFFERENCE), unless(errors.InvalidWrites, test_differences.is_difference))


def commit(name, number):
    return (name, made(number), unless_with(errors.InvalidSnapshot, commit_of))


def part(name, value):
    return (name, made(value), IN_DIFFERENCE[2])


COMMITS = [IN_BOOK, commit("one", 1), commit("other", 3)]
SPECS = [
    ("histories", "is_history", [("value", made(DAY), judged)]),
    ("histories", "is_right", [HISTORY]),
    ("histories", "first_wrong", [HISTORY]),
    ("histories", "right_event", [HISTORY]),
    *[("histories", name, [HISTORY], refused_history)
      for name in ["states_of", "standing_of", "fates", "told_places", "row_of", "all_rows", "falls_of"]],
    ("histories", "is_row", [HISTORY, ("value", made([0, 9]), judged)], refused_history),
    ("weavings", "is_program", [("value", made(PROGRAMS[0]), judged)]),
    ("weavings", "done_alone", [PLAIN_STATE, ("program", made(PROGRAMS[0]), unless(errors.InvalidPrograms, is_program))]),
    ("weavings", "behind_row", [PLAIN_STATE, IN_PROGRAMS, ("row", made([1, 0]), unless_with(errors.InvalidOrder, is_row_of))]),
    ("weavings", "woven", [PLAIN_STATE, IN_PROGRAMS, ("order", made([0, 1, 0, 1, 1, 0, 0, 1]), unless_with(errors.InvalidOrder, is_order))]),
    *[("weavings", name, [PLAIN_STATE, IN_PROGRAMS])
      for name in ["endings", "most_refusals", "refusing_order", "never_refused", "once_rows"]],
    ("weavings", "rows_to", [PLAIN_STATE, IN_PROGRAMS, ("ending", made({("a", 2): ("b",), N: (1, 1)}), IN_STATE[2])]),
    ("weavings", "is_refusing_order", [PLAIN_STATE, IN_PROGRAMS, ("value", made([0, 0, 0, 0, 1, 1, 1, 1]), judged)]),
    ("hangs", "changes_of", [("one", made(RIGHT), IN_STATE[2]), ("other", made(RIGHT), IN_STATE[2])], refused_forms),
    ("hangs", "kept", [RIGHT_STATE, GOOD_WISH], wish_unfit),
    ("hangs", "told_by", [GOOD_WISH, IN_HELD]),
    ("hangs", "led_on", [COLUMNS, FITTING_WISH, IN_HELD, IN_CHANGES]),
    ("hangs", "hangs", [RIGHT_STATE, GOOD_WISH, IN_CHANGES], refused_changes),
    ("hangs", "is_beside", [COLUMNS, FITTING_WISH, IN_CHANGE]),
    ("hangs", "parting_rows", [COLUMNS, FITTING_WISH, IN_CHANGE]),
    ("hangs", "is_parting", [COLUMNS, FITTING_WISH, IN_CHANGE, ("value", made([CHANGE[1]]), judged)]),
    ("hangs", "Standing", [RIGHT_STATE, ("wishes", made({"a": WISH, "b": ("count", "goods", None)}), unless(errors.InvalidName, are_wishes))], refused_wishes),
    ("hangs", "Standing.lead", [("self", make_standing, HELD), ("changes", made(CHANGES), judge_lead)]),
    ("hangs", "Standing.answers", [("self", make_standing, HELD)]),
    ("hangs", "Standing.turned", [("self", make_standing, HELD)]),
    ("hangs", "Standing.looked_at", [("self", make_standing, HELD)]),
    ("differences", "difference", COMMITS),
    ("differences", "looked_through", COMMITS),
    ("differences", "laid_over", [("state", made({("a",): (1,), ("b",): ()}), IN_STATE[2]), IN_DIFFERENCE], elders_fit),
    ("differences", "turned_back", [IN_DIFFERENCE]),
    ("differences", "one_behind", [part("first", DIFFERENCE), part("second", [(("a",), None, (1,)), (("d",), (2,), (3,))])], one_behind_refused),
    ("differences", "meets", [part("first", DIFFERENCE), part("second", [(("c",), None, (1,))])]),
    ("differences", "both_of", [part("first", DIFFERENCE), part("second", [(("c",), None, ()), (("d",), (2,), (3,))])], both_refused),
    ("differences", "merged", [IN_BOOK, commit("base", 0), commit("mine", 1), commit("theirs", 2)]),
    ("differences", "table_changes", COMMITS),
]


class LateArgumentsTest(ArgumentsCheck, unittest.TestCase):
    specs = SPECS


if __name__ == "__main__":
    unittest.main()
