"""Tests and wishes: their forms, what of them does not fit a table, and what they tell of its rows."""

from weavestore.keys import is_worth
from weavestore.kinds import is_count_from_one, is_tuple_of, is_word
from weavestore.schemas import has_kind

SIGNS = ("=", "<", ">", "<=", ">=")
JOINS = ("and", "or")
TURNS = ("up", "down")
OF_COLUMN = ("sum", "least", "greatest", "group")


def is_leaf(value):
    """Whether a tuple is an "is"."""
    return len(value) == 4 and is_word(value[1]) and value[2] in SIGNS and is_worth(value[3])


def begins_with(value, word):
    """Whether any object is a tuple that begins with a word."""
    return isinstance(value, tuple) and value[:1] == (word,)


def parts_of(test):
    """The tuple of the tests of which a test is made."""
    if test[0] == "is":
        return ()
    return test[1:]


def is_knot(value):
    """Whether any object is a test but for the tests of which it is made."""
    if begins_with(value, "is"):
        return is_leaf(value)
    if begins_with(value, "not"):
        return len(value) == 2
    for word in JOINS:
        if begins_with(value, word):
            return len(value) >= 3 and not any([begins_with(part, word) for part in value[1:]])
    return False


def is_test(value):
    """Whether any object is a test."""
    ahead = [value]
    while ahead:
        part = ahead.pop()
        if not is_knot(part):
            return False
        ahead.extend(parts_of(part))
    return True


def inside_out(test):
    """The list of all parts of a test, each behind those of which it is made, these in their order."""
    found = []
    ahead = [test]
    while ahead:
        part = ahead.pop()
        found.append(part)
        ahead.extend(parts_of(part))
    return found[::-1]


def taken_off(stack, part):
    """The list of what stands last on a stack for the tests of which one is made, taken off."""
    first = len(stack) - len(parts_of(part))
    taken = stack[first:]
    del stack[first:]
    return taken


def leaves_of(test):
    """The list of the "is" of a test, or of None."""
    if test is None:
        return []
    return [part for part in inside_out(test) if part[0] == "is"]


def is_told(sign, one, other):
    """Whether two worths of one kind stand as a sign says."""
    if sign == "=":
        return one == other
    if sign == "<":
        return one < other
    if sign == ">":
        return one > other
    if sign == "<=":
        return one <= other
    return one >= other


def does_pass(columns, test, row):
    """Whether a row passes a test that fits."""
    if test is None:
        return True
    worths = {column: worth for (column, kind), worth in zip(columns, row)}
    stack = []
    for part in inside_out(test):
        told = taken_off(stack, part)
        if part[0] == "is":
            stack.append(is_told(part[2], worths[part[1]], part[3]))
        elif part[0] == "not":
            stack.append(not told[0])
        elif part[0] == "and":
            stack.append(all(told))
        else:
            stack.append(any(told))
    return stack[0]


def is_test_or_none(value):
    """Whether any object is a test or None."""
    return value is None or is_test(value)


def are_names(value):
    """Whether any object is a list, not empty, of unlike words."""
    if not isinstance(value, list) or not value or not all([is_word(name) for name in value]):
        return False
    return len(set(value)) == len(value)


def is_find(value):
    """Whether a tuple that begins with "find" is a wish."""
    if len(value) != 6:
        return False
    word, names, table, test, order, most = value
    if order is not None and not (is_tuple_of(order, 2) and is_word(order[0]) and order[1] in TURNS):
        return False
    return are_names(names) and is_word(table) and is_test_or_none(test) and (most is None or is_count_from_one(most))


def is_wish(value):
    """Whether any object is a wish."""
    if begins_with(value, "find"):
        return is_find(value)
    if begins_with(value, "count"):
        return len(value) == 3 and is_word(value[1]) and is_test_or_none(value[2])
    if not is_tuple_of(value, 4) or value[0] not in OF_COLUMN:
        return False
    return is_word(value[1]) and is_word(value[2]) and is_test_or_none(value[3])


def table_of(wish):
    """The table of a wish."""
    if wish[0] == "count":
        return wish[1]
    return wish[2]


def test_of(wish):
    """The test of a wish."""
    if wish[0] == "count":
        return wish[2]
    return wish[3]


def names_of(wish):
    """The list of the columns that a wish names, but for those of its test."""
    if wish[0] == "count":
        return []
    if wish[0] != "find":
        return [wish[1]]
    if wish[4] is None:
        return wish[1]
    return wish[1] + [wish[4][0]]


def why_unfit(columns, names, test):
    """The reason why some columns, or those of a test, do not fit a table, None if they do."""
    kinds = {column: kind for column, kind in columns}
    leaves = leaves_of(test)
    if not all([name in kinds for name in names + [leaf[1] for leaf in leaves]]):
        return "column"
    if not all([has_kind(leaf[3], kinds[leaf[1]]) for leaf in leaves]):
        return "kind"
    return None


def why_not_fitting(layout, wish):
    """The reason why a wish does not fit a right state with a layout, None if it does."""
    table = table_of(wish)
    if table not in layout.tables:
        return "table"
    columns = layout.tables[table]
    reason = why_unfit(columns, names_of(wish), test_of(wish))
    if reason is None and wish[0] == "sum" and (wish[1], "count") not in columns:
        return "kind"
    return reason


def many_of_each(worths):
    """The ascending list of the tuples (worth, how many) of worths of one kind."""
    found = {}
    for worth in worths:
        found[worth] = found.get(worth, 0) + 1
    return [(worth, found[worth]) for worth in sorted(found)]


def found_rows(places, wish, rows):
    """The answer of a find, by the places of the columns and by the rows that pass, key worths ascending."""
    word, names, table, test, order, most = wish
    if order is not None:
        at = places[order[0]]
        if order[1] == "down":
            rows = sorted(rows, key=lambda row: row[at], reverse=True)
        else:
            rows = sorted(rows, key=lambda row: row[at])
    if most is not None:
        rows = rows[:most]
    return [tuple([row[places[name]] for name in names]) for row in rows]


def told_of_worths(word, worths):
    """What a wish that begins with a word, of one column, tells of the column's worths."""
    if word == "sum":
        return sum(worths)
    if word == "least":
        return min(worths, default=None)
    if word == "greatest":
        return max(worths, default=None)
    return many_of_each(worths)


def told_by_rows(columns, wish, rows):
    """The answer of a wish by some rows of its table, key worths ascending."""
    rows = [row for row in rows if does_pass(columns, test_of(wish), row)]
    if wish[0] == "count":
        return len(rows)
    places = {column: at for at, (column, kind) in enumerate(columns)}
    if wish[0] == "find":
        return found_rows(places, wish, rows)
    return told_of_worths(wish[0], [row[places[wish[1]]] for row in rows])
