"""Tables with indexes in a state: what is right, their rows, and the writes that change one row."""

from weavestore.errors import InvalidRow, InvalidTable, Refused
from weavestore.keys import is_key, is_worth, worth_behind
from weavestore.kinds import LETTERS, is_count, is_word
from weavestore.needs import need_key, need_state
from weavestore.schemas import Layout, all_reasons, has_kind, is_row, is_table_word, is_taken, row_key, rows_of
from weavestore.schemas import writes_between


def is_right(state):
    """Returns whether a state is right."""
    need_state(state)
    return all_reasons(state) == []


def need_right(state):
    """Raises InvalidState unless it is a state, then Refused unless it is right."""
    if not is_right(state):
        raise Refused(state)


def forms(state):
    """Returns the dictionary from the tables to their columns and their indexes."""
    need_right(state)
    layout = Layout(state)
    return {table: (columns, layout.indexes_of(table)) for table, columns in layout.tables.items()}


def tables(state):
    """Returns the dictionary from the tables to the lists of their rows."""
    need_right(state)
    return {table: rows_of(state, table) for table in Layout(state).tables}


def is_row_of(layout, state, table, value):
    """Whether any object is a row that a table has."""
    return is_row(value, layout.tables[table]) and state.get(row_key(table, value)) == value


def may_come(layout, state, table, elder, newer):
    """Whether any object may stand in the place of a row, or of none."""
    if newer is None:
        return elder is not None
    if not is_row(newer, layout.tables[table]) or is_taken(layout, state, table, newer):
        return False
    if elder is None:
        return row_key(table, newer) not in state
    return newer[0] == elder[0]


def row_writes(state, table, elder, newer):
    """Returns the least writes by which a row is taken out, put in or exchanged."""
    need_right(state)
    layout = Layout(state)
    if not is_word(table) or table not in layout.tables:
        raise InvalidTable(table)
    if elder is not None and not is_row_of(layout, state, table, elder):
        raise InvalidRow(elder)
    if not may_come(layout, state, table, elder, newer):
        raise InvalidRow(newer)
    return writes_between(layout, table, elder, newer)


def behind(key):
    """Returns the least key that is greater than all keys that begin with a key, None if there is none."""
    need_key(key)
    for many in range(len(key), 0, -1):
        late = worth_behind(key[many - 1])
        if late is None and is_count(key[many - 1]):
            # Words stand behind all counts.
            late = LETTERS[0]
        if late is not None:
            return (*key[: many - 1], late)
    return None


def need_bound(bound, kind):
    """Raises InvalidRow unless it is a worth of a kind, or None."""
    if bound is not None and not (is_worth(bound) and has_kind(bound, kind)):
        raise InvalidRow(bound)


def by_index(state, index, low, high):
    """Returns the rows whose worth in an index is from one bound on and below another one."""
    need_right(state)
    layout = Layout(state)
    if not is_word(index) or index not in layout.indexes:
        raise InvalidTable(index)
    table, column, manner = layout.indexes[index]
    place = layout.place_in(table, column)
    kind = layout.tables[table][place][1]
    need_bound(low, kind)
    need_bound(high, kind)
    rows = [row for row in rows_of(state, table) if low is None or row[place] >= low]
    return sorted([row for row in rows if high is None or row[place] < high], key=lambda row: row[place])


def why_wrong(state):
    """Returns a reason why a state is not right, None if it is."""
    need_state(state)
    reasons = all_reasons(state)
    if not reasons:
        return None
    return reasons[0]


def is_why_wrong(state, value):
    """Returns whether any object is a reason why a state is not right."""
    need_state(state)
    if not isinstance(value, tuple) or not all([is_key(key) for key in value[1:]]):
        return False
    return value in all_reasons(state)


def is_table_key(key):
    """Returns whether a key is a table key."""
    need_key(key)
    return is_table_word(key[0])
