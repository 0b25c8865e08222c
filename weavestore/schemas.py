"""Tables as they lie in a state: their forms, indexes and rows, and all that is wrong with them."""

from weavestore.keys import ascending, by_keys, is_worth
from weavestore.kinds import is_tuple_of, is_word

PLACES = {"table": 2, "index": 2, "row": 3, "by": 4}
KINDS = ("word", "count")
MANNERS = ("alone", "any")
MOST_COLUMNS = 3


class Layout:
    """The tables of a state that are there, by their columns, and its indexes that are there, by their things."""

    def __init__(self, state):
        keys = [key for key in ascending(state) if is_named(key)]
        forms = {key[1]: columns_of(state[key]) for key in keys if key[0] == "table"}
        self.tables = {table: columns for table, columns in forms.items() if columns is not None}
        things = {key[1]: state[key] for key in keys if key[0] == "index" and is_index_form(state[key])}
        self.indexes = {index: thing for index, thing in things.items() if not self.is_of_key_column(thing)}

    def is_of_key_column(self, thing):
        """Whether the column of an index is the key column of a table that is there."""
        return thing[0] in self.tables and self.tables[thing[0]][0][0] == thing[1]

    def place_in(self, table, column):
        """The place of a column in a table, None if it is not there."""
        for at, (name, kind) in enumerate(self.tables[table]):
            if name == column:
                return at
        return None

    def is_placed(self, index):
        """Whether an index is there with its table and column."""
        if index not in self.indexes:
            return False
        table, column, manner = self.indexes[index]
        return table in self.tables and self.place_in(table, column) is not None

    def indexes_of(self, table):
        """The ascending list of the tuples (index, column, manner) of a table that is there."""
        found = []
        for index, (of, column, manner) in self.indexes.items():
            if of == table and self.is_placed(index):
                found.append((index, column, manner))
        return found


def is_table_word(word):
    """Whether a key that begins so is a table key."""
    return word in PLACES


def is_named(key):
    """Whether a key is a table key with its number of places and a word where one has to stand."""
    return is_table_word(key[0]) and len(key) == PLACES[key[0]] and isinstance(key[1], str)


def are_columns(value):
    """Whether any object is a list of one to three tuples (column, kind), columns unlike."""
    if not isinstance(value, list) or not 1 <= len(value) <= MOST_COLUMNS:
        return False
    if not all([is_tuple_of(part, 2) for part in value]):
        return False
    if not all([is_word(column) and kind in KINDS for column, kind in value]):
        return False
    return len({column for column, kind in value}) == len(value)


def columns_of(thing):
    """The list of the tuples (column, kind) that a form tells, None if it is none."""
    if len(thing) not in (2, 4, 6):
        return None
    columns = [(thing[at], thing[at + 1]) for at in range(0, len(thing), 2)]
    if not are_columns(columns):
        return None
    return columns


def form_of(columns):
    """The thing by which a table with these columns lies in a state."""
    return tuple([part for column in columns for part in column])


def is_index_form(thing):
    """Whether a thing is one of an index."""
    return len(thing) == 3 and is_word(thing[0]) and is_word(thing[1]) and thing[2] in MANNERS


def has_kind(worth, kind):
    """Whether a worth is of a kind."""
    return isinstance(worth, str) == (kind == "word")


def fits_columns(row, columns):
    """Whether the worths of a row are as many as the columns, and of their kinds."""
    if len(row) != len(columns):
        return False
    return all([has_kind(worth, kind) for worth, (column, kind) in zip(row, columns)])


def is_row(value, columns):
    """Whether any object is a row of a table with these columns."""
    return isinstance(value, tuple) and all([is_worth(part) for part in value]) and fits_columns(value, columns)


def rows_of(state, table):
    """The list of the rows of a table of a right state, by key worths ascending."""
    return [state[key] for key in ascending(state) if key[0] == "row" and key[1] == table]


def row_key(table, row):
    """The row key of a row."""
    return ("row", table, row[0])


def index_keys(layout, table, row):
    """The ascending list of the index keys of a row of a table that is there."""
    found = []
    for index, column, manner in layout.indexes_of(table):
        found.append(("by", index, row[layout.place_in(table, column)], row[0]))
    return found


def entries_of(layout, table, row):
    """The dictionary from the keys by which a row lies in a state to their things, none for no row."""
    if row is None:
        return {}
    entries = {key: () for key in index_keys(layout, table, row)}
    entries[row_key(table, row)] = row
    return entries


def writes_between(layout, table, elder, newer):
    """The least writes, keys ascending, by which a row is taken out, put in or exchanged."""
    old = entries_of(layout, table, elder)
    new = entries_of(layout, table, newer)
    writes = {key: None for key in old if key not in new}
    for key, thing in new.items():
        if key not in old or old[key] != thing:
            writes[key] = thing
    return by_keys(writes)


def is_taken(layout, state, table, row):
    """Whether an index that is alone has the worth of a row for another row."""
    for index, column, manner in layout.indexes_of(table):
        begin = ("by", index, row[layout.place_in(table, column)])
        if manner == "alone" and [key for key in state if key[:3] == begin and key[3:] != (row[0],)]:
            return True
    return False


def is_strange(layout, key, thing):
    """Whether a table key with its thing is none of a table."""
    if not is_named(key):
        return True
    if key[0] == "table":
        return key[1] not in layout.tables
    if key[0] == "index":
        return key[1] not in layout.indexes
    if key[0] == "row":
        if not 1 <= len(thing) <= MOST_COLUMNS or thing[0] != key[2]:
            return True
        return key[1] in layout.tables and not fits_columns(thing, layout.tables[key[1]])
    return thing != () or (layout.is_placed(key[1]) and not fits_index(layout, key))


def fits_index(layout, key):
    """Whether the worth and the key worth of an index key are of the kinds of its index."""
    table, column, manner = layout.indexes[key[1]]
    columns = layout.tables[table]
    kind = columns[layout.place_in(table, column)][1]
    return has_kind(key[2], kind) and has_kind(key[3], columns[0][1])


def is_bare(layout, state, key):
    """Whether a table key that is not strange has nothing to which it belongs."""
    if key[0] == "table":
        return False
    if key[0] == "index":
        return not layout.is_placed(key[1])
    if key[0] == "row":
        return key[1] not in layout.tables
    if not layout.is_placed(key[1]):
        return True
    table, column, manner = layout.indexes[key[1]]
    row = ("row", table, key[3])
    if row not in state or is_strange(layout, row, state[row]):
        return True
    return state[row][layout.place_in(table, column)] != key[2]


def is_double(layout, state, key, other):
    """Whether two table keys, neither strange, may not both be there."""
    if key[0] == "index" and other[0] == "index":
        return state[key][:2] == state[other][:2]
    if key[0] != "by" or key[:3] != other[:3] or not layout.is_placed(key[1]):
        return False
    return layout.indexes[key[1]][2] == "alone"


def all_reasons(state):
    """The list of all reasons why a state is not right."""
    layout = Layout(state)
    keys = [key for key in ascending(state) if is_table_word(key[0])]
    strange = [key for key in keys if is_strange(layout, key, state[key])]
    fine = [key for key in keys if key not in strange]
    bare = [key for key in fine if is_bare(layout, state, key)]
    found = [("strange", key) for key in strange] + [("bare", key) for key in bare]
    for key in fine:
        if key[0] == "row" and key not in bare:
            late = [each for each in index_keys(layout, key[1], state[key]) if each not in state]
            found.extend([("lacking", key, each) for each in late])
    for at, key in enumerate(fine):
        found.extend([("twice", key, other) for other in fine[at + 1 :] if is_double(layout, state, key, other)])
    return found
