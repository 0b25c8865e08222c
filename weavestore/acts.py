"""Deeds of tables done over a state: why one is not done, and the writes that do it."""

from weavestore.keys import by_keys
from weavestore.schemas import Layout, all_reasons, fits_columns, form_of, has_kind, is_taken, row_key, rows_of
from weavestore.schemas import writes_between
from weavestore.wishes import does_pass, why_unfit


def passing(layout, state, table, test):
    """The list of the rows of a table that pass a test."""
    return [row for row in rows_of(state, table) if does_pass(layout.tables[table], test, row)]


def is_alone(layout, table, column):
    """Whether an index of a column is "alone"."""
    return [each for each in layout.indexes_of(table) if each[1] == column and each[2] == "alone"] != []


def why_no_index(layout, state, deed):
    """The reason why a deed that makes an index is not done, None if there is none."""
    word, index, table, column, manner = deed
    if table not in layout.tables:
        return "table"
    if index in layout.indexes:
        return "index"
    place = layout.place_in(table, column)
    if place is None or place == 0 or column in [each[1] for each in layout.indexes_of(table)]:
        return "column"
    worths = [row[place] for row in rows_of(state, table)]
    if manner == "alone" and len(set(worths)) < len(worths):
        return "double"
    return None


def why_no_row(layout, state, deed):
    """The reason why a deed that puts or exchanges a row is not done, None if there is none."""
    word, table, row = deed
    if table not in layout.tables:
        return "table"
    if not fits_columns(row, layout.tables[table]):
        return "kind"
    if (row_key(table, row) in state) == (word == "put"):
        return "row"
    if is_taken(layout, state, table, row):
        return "double"
    return None


def why_not_set(layout, state, deed):
    """The reason why a deed that sets worths is not done, None if there is none."""
    word, table, column, worth, test = deed
    if table not in layout.tables:
        return "table"
    columns = layout.tables[table]
    reason = why_unfit(columns, [column], test)
    if reason == "column" or column == columns[0][0]:
        return "column"
    place = layout.place_in(table, column)
    if reason == "kind" or not has_kind(worth, columns[place][1]):
        return "kind"
    if is_alone(layout, table, column):
        late = passing(layout, state, table, test)
        if len([row for row in rows_of(state, table) if row in late or row[place] == worth]) > 1:
            return "double"
    return None


def why_not_erased(layout, deed):
    """The reason why a deed that erases rows is not done, None if there is none."""
    word, table, test = deed
    if table not in layout.tables:
        return "table"
    return why_unfit(layout.tables[table], [], test)


def why_undone(layout, state, deed):
    """The first reason why a deed of tables is not done over a right state, None if there is none."""
    word = deed[0]
    if word == "make" or word == "unmake":
        return "table" if (deed[1] in layout.tables) == (word == "make") else None
    if word == "index":
        return why_no_index(layout, state, deed)
    if word == "unindex":
        return None if deed[1] in layout.indexes else "index"
    if word == "set":
        return why_not_set(layout, state, deed)
    if word == "erase":
        return why_not_erased(layout, deed)
    return why_no_row(layout, state, deed)


def writes_of_rows(layout, table, pairs):
    """The writes put together of tuples (elder, newer) of rows of a table."""
    writes = {}
    for elder, newer in pairs:
        for key, thing in writes_between(layout, table, elder, newer).items():
            writes[key] = thing
    return writes


def unmade_table(layout, state, table):
    """How many rows a table has, and the writes that take it out with its rows and indexes."""
    rows = rows_of(state, table)
    writes = writes_of_rows(layout, table, [(row, None) for row in rows])
    writes[("table", table)] = None
    for index, column, manner in layout.indexes_of(table):
        writes[("index", index)] = None
    return (len(rows), writes)


def made_index(layout, state, deed):
    """The writes that put an index in."""
    word, index, table, column, manner = deed
    place = layout.place_in(table, column)
    writes = {("by", index, row[place], row[0]): () for row in rows_of(state, table)}
    writes[("index", index)] = (table, column, manner)
    return writes


def set_rows(layout, state, deed):
    """How many rows get another worth in a column, and the writes that do it."""
    word, table, column, worth, test = deed
    place = layout.place_in(table, column)
    elder = [row for row in passing(layout, state, table, test) if row[place] != worth]
    pairs = [(row, (*row[:place], worth, *row[place + 1 :])) for row in elder]
    return (len(elder), writes_of_rows(layout, table, pairs))


def erased_rows(layout, state, deed):
    """How many rows are erased, and the writes that do it."""
    word, table, test = deed
    rows = passing(layout, state, table, test)
    return (len(rows), writes_of_rows(layout, table, [(row, None) for row in rows]))


def many_and_writes(layout, state, deed):
    """How many are told of a deed that is done, and the writes that do it."""
    word = deed[0]
    if word == "make":
        return (0, {("table", deed[1]): form_of(deed[2])})
    if word == "unmake":
        return unmade_table(layout, state, deed[1])
    if word == "index":
        return (0, made_index(layout, state, deed))
    if word == "unindex":
        gone = [key for key in state if key[:2] == ("by", deed[1])]
        return (0, {key: None for key in [("index", deed[1])] + gone})
    if word == "set":
        return set_rows(layout, state, deed)
    if word == "erase":
        return erased_rows(layout, state, deed)
    elder = state.get(row_key(deed[1], deed[2]))
    return (1, writes_between(layout, deed[1], elder, deed[2]))


def acted(state, deed):
    """The tuple of the answer of a deed of tables over a state and of the least writes that do it."""
    if all_reasons(state) != []:
        return (("undone", "wrong"), {})
    layout = Layout(state)
    reason = why_undone(layout, state, deed)
    if reason is not None:
        return (("undone", reason), {})
    many, writes = many_and_writes(layout, state, deed)
    return (("done", many), by_keys(writes))
