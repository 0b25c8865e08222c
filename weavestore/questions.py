"""Questions and deeds of tables as text: what they tell of a state, and the ways to it."""

from weavestore.acts import acted
from weavestore.errors import InvalidQuestion, InvalidRow, InvalidTable, Refused
from weavestore.keys import ascending
from weavestore.kinds import is_word
from weavestore.needs import need_state
from weavestore.reading import table_deed_of, wish_of
from weavestore.schemas import Layout, all_reasons, are_columns, is_row, row_key, rows_of
from weavestore.spans import is_within, spans_for
from weavestore.wishes import does_pass, is_test, is_wish, table_of, test_of, told_by_rows, why_not_fitting, why_unfit
from weavestore.wording import is_table_deed, text_of_table_deed, text_of_wish

ALL = ("all",)
KEY = ("key",)


def need_columns_and_test(columns, test):
    """Raises InvalidTable, then InvalidQuestion, unless they are columns and a test that fits, or None."""
    if not are_columns(columns):
        raise InvalidTable(columns)
    if test is not None and (not is_test(test) or why_unfit(columns, [], test) is not None):
        raise InvalidQuestion(test)


def passes(columns, test, row):
    """Returns whether a row passes a test that fits, or None."""
    need_columns_and_test(columns, test)
    if not is_row(row, columns):
        raise InvalidRow(row)
    return does_pass(columns, test, row)


def need_wish(wish):
    """Raises InvalidQuestion unless it is a wish."""
    if not is_wish(wish):
        raise InvalidQuestion(wish)


def need_fitting(state, wish):
    """Raises InvalidState, then InvalidQuestion, then Refused unless the state is right and the wish fits it."""
    need_state(state)
    need_wish(wish)
    if why_untold(state, wish) is not None:
        raise Refused(state)


def why_untold(state, wish):
    """The reason why a wish is not told over a state, None if it is."""
    if all_reasons(state) != []:
        return "wrong"
    return why_not_fitting(Layout(state), wish)


def told_by_all(state, wish):
    """The answer of a wish that fits a right state by all rows of the table."""
    table = table_of(wish)
    return told_by_rows(Layout(state).tables[table], wish, rows_of(state, table))


def plain_answer(state, wish):
    """Returns the answer of a wish by all rows of the table."""
    need_fitting(state, wish)
    return told_by_all(state, wish)


def wish_text(wish):
    """Returns the text of a wish."""
    need_wish(wish)
    return text_of_wish(wish)


def read_wish(text):
    """Returns the one wish with a text."""
    return wish_of(text)


def answer_of(state, text):
    """Returns what a question that is a text tells of a state."""
    need_state(state)
    wish = wish_of(text)
    reason = why_untold(state, wish)
    if reason is not None:
        return ("untold", reason)
    return ("told", told_by_all(state, wish))


def deed_text(deed):
    """Returns the text of a deed of tables."""
    if not is_table_deed(deed):
        raise InvalidRow(deed)
    return text_of_table_deed(deed)


def read_deed(text):
    """Returns the one deed of tables with a text."""
    return table_deed_of(text)


def deed_of(state, text):
    """Returns the tuple of the answer of a deed that is a text and of the least writes that do it."""
    need_state(state)
    return acted(state, table_deed_of(text))


def stretches(columns, test, column):
    """Returns the ascending list of the stretches of a column's worths in which a test may hold."""
    need_columns_and_test(columns, test)
    kinds = {name: kind for name, kind in columns}
    if not is_word(column) or column not in kinds:
        raise InvalidQuestion(column)
    return spans_for(kinds[column], test, column)


def ways_of(state, wish):
    """The list of the ways of a wish that fits a right state."""
    return [ALL, KEY] + [("index", index) for index, column, manner in Layout(state).indexes_of(table_of(wish))]


def ways(state, wish):
    """Returns the list of the ways of a wish, indexes ascending."""
    need_fitting(state, wish)
    return ways_of(state, wish)


def column_of(layout, wish, way):
    """The column by whose stretches a way goes."""
    if way == KEY:
        return layout.tables[table_of(wish)][0][0]
    return layout.indexes[way[1]][1]


def keys_read(state, wish, way):
    """The ascending list of the keys that are read by a way."""
    layout = Layout(state)
    table = table_of(wish)
    rows = rows_of(state, table)
    if way == ALL:
        return ascending([row_key(table, row) for row in rows])
    column = column_of(layout, wish, way)
    place = layout.place_in(table, column)
    spans = spans_for(layout.tables[table][place][1], test_of(wish), column)
    rows = [row for row in rows if is_within(spans, row[place])]
    keys = [row_key(table, row) for row in rows]
    if way != KEY:
        keys = keys + [("by", way[1], row[place], row[0]) for row in rows]
    return ascending(keys)


def need_way(state, wish, way):
    """Raises what is told for a state and a wish, then InvalidQuestion unless it is one of the ways."""
    need_fitting(state, wish)
    if way not in ways_of(state, wish):
        raise InvalidQuestion(way)


def looked(state, wish, way):
    """Returns the ascending list of the keys that are read by a way."""
    need_way(state, wish, way)
    return keys_read(state, wish, way)


def answer_by(state, wish, way):
    """Returns the answer of a wish by the rows alone that are read by a way."""
    need_way(state, wish, way)
    rows = [state[key] for key in keys_read(state, wish, way) if key[0] == "row"]
    return told_by_rows(Layout(state).tables[table_of(wish)], wish, rows)


def best_way(state, wish):
    """Returns the first way of those that read fewest keys."""
    return min(ways(state, wish), key=lambda way: len(keys_read(state, wish, way)))
