"""Changes of rows, and what is kept of a wish so that it is told without its table."""

from weavestore.keys import is_worth
from weavestore.kinds import ascends, is_tuple_of, is_word
from weavestore.schemas import has_kind, is_row, rows_of
from weavestore.wishes import does_pass, test_of, told_of_worths
from weavestore.wording import is_row_of_worths


def is_change(value):
    """Whether any object is a change, by its form alone."""
    if not is_tuple_of(value, 3) or not is_word(value[0]):
        return False
    table, elder, newer = value
    rows = [row for row in [elder, newer] if row is not None]
    if not rows or not all([is_row_of_worths(row) for row in rows]):
        return False
    return len(rows) == 1 or (elder != newer and elder[0] == newer[0])


def fits_tables(change, tables):
    """Whether the rows of a change are rows of its table, where some tables, by their columns, have it."""
    table, elder, newer = change
    if table not in tables:
        return True
    return all([row is None or is_row(row, tables[table]) for row in [elder, newer]])


def key_worth_of(change):
    """The key worth of the rows of a change."""
    table, elder, newer = change
    return newer[0] if elder is None else elder[0]


def are_changes(value, tables):
    """Whether any object is a list of changes, each fitting its table, no two with one table and key worth."""
    if not isinstance(value, list) or not all([is_change(change) for change in value]):
        return False
    places = {(change[0], key_worth_of(change)) for change in value}
    return len(places) == len(value) and all([fits_tables(change, tables) for change in value])


def changes_between(one, other, tables):
    """The list of the changes of rows of some tables, ascending, from one right state to another one."""
    found = []
    for table in sorted(tables):
        elder = {row[0]: row for row in rows_of(one, table)}
        newer = {row[0]: row for row in rows_of(other, table)}
        for worth in sorted({**elder, **newer}):
            if elder.get(worth) != newer.get(worth):
                found.append((table, elder.get(worth), newer.get(worth)))
    return found


def given_by(columns, wish, row):
    """What a row that passes gives to a wish."""
    if wish[0] == "count":
        return None
    worths = {column: worth for (column, kind), worth in zip(columns, row)}
    if wish[0] != "find":
        return worths[wish[1]]
    order = None if wish[4] is None else worths[wish[4][0]]
    return (tuple([worths[name] for name in wish[1]]), order)


def kept_of(columns, wish, rows):
    """The list of the tuples (key worth, what the row gives) of those rows, key worths ascending, that pass."""
    passing = [row for row in rows if does_pass(columns, test_of(wish), row)]
    return [(row[0], given_by(columns, wish, row)) for row in passing]


def are_of_one_kind(worths):
    """Whether all of some objects are worths of one kind."""
    if not all([is_worth(worth) for worth in worths]):
        return False
    return len({isinstance(worth, str) for worth in worths}) <= 1


def is_given_to_find(wish, value):
    """Whether any object is a tuple of as many worths as a find has columns, and of a worth of its order, if any."""
    if not is_tuple_of(value, 2) or not is_tuple_of(value[0], len(wish[1])):
        return False
    if not all([is_worth(part) for part in value[0]]):
        return False
    return is_worth(value[1]) if wish[4] is not None else value[1] is None


def are_given(wish, values):
    """Whether some objects can be what rows give to a wish."""
    if wish[0] == "count":
        return all([value is None for value in values])
    if wish[0] != "find":
        return are_of_one_kind(values) and (wish[0] != "sum" or all([has_kind(value, "count") for value in values]))
    if not all([is_given_to_find(wish, value) for value in values]):
        return False
    return wish[4] is None or are_of_one_kind([value[1] for value in values])


def are_kept(wish, value):
    """Whether any object is what could be kept of a wish, by its form."""
    if not isinstance(value, list) or not all([is_tuple_of(part, 2) for part in value]):
        return False
    worths = [part[0] for part in value]
    return are_of_one_kind(worths) and ascends(worths) and are_given(wish, [part[1] for part in value])


def has_kinds_of(columns, wish, part):
    """Whether the worths of something kept are of the kinds of the columns."""
    kinds = {column: kind for column, kind in columns}
    worth, given = part
    if not has_kind(worth, columns[0][1]):
        return False
    if wish[0] == "count":
        return True
    if wish[0] != "find":
        return has_kind(given, kinds[wish[1]])
    if wish[4] is not None and not has_kind(given[1], kinds[wish[4][0]]):
        return False
    return all([has_kind(each, kinds[name]) for name, each in zip(wish[1], given[0])])


def found_by(wish, held):
    """The answer of a find by what is kept of it."""
    if wish[4] is not None and wish[4][1] == "down":
        held = sorted(held, key=lambda part: part[1][1], reverse=True)
    elif wish[4] is not None:
        held = sorted(held, key=lambda part: part[1][1])
    told = [given[0] for worth, given in held]
    return told if wish[5] is None else told[: wish[5]]


def answer_by_kept(wish, held):
    """The answer of a wish by what is kept of it."""
    if wish[0] == "find":
        return found_by(wish, held)
    if wish[0] == "count":
        return len(held)
    return told_of_worths(wish[0], [given for worth, given in held])


def kept_behind(columns, wish, held, changes):
    """What is kept of a wish behind changes of its table."""
    gone = {key_worth_of(change): True for change in changes}
    newer = [change[2] for change in changes if change[2] is not None]
    late = [part for part in held if part[0] not in gone] + kept_of(columns, wish, newer)
    return sorted(late, key=lambda part: part[0])
