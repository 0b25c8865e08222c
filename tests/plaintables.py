"""The tests' own looks at tables: what lies in a state, what is wrong with it, what tests, wishes and deeds tell.

A model is a dictionary from tables to tuples of columns, of indexes (index, column, manner), and of rows.
"""

import functools

from tests.plainbooks import compare, in_order, is_part, is_word

WORDS = ("table", "index", "row", "by")
SIGNS = {
    "=": lambda one, other: one == other, "<": lambda one, other: one < other, ">": lambda one, other: one > other,
    "<=": lambda one, other: one <= other, ">=": lambda one, other: one >= other,
}


def composed(model):
    """The state of a model, keys ascending."""
    state = {}
    for table, (columns, indexes, rows) in model.items():
        names = [column for column, kind in columns]
        state[("table", table)] = tuple(part for column in columns for part in column)
        for index, column, manner in indexes:
            state[("index", index)] = (table, column, manner)
        for row in rows:
            state[("row", table, row[0])] = row
            for index, column, manner in indexes:
                state[("by", index, row[names.index(column)], row[0])] = ()
    return {key: state[key] for key in in_order(state)}


def kind_of(worth):
    return "word" if type(worth) is str else "count"


def are_columns(value):
    if type(value) is not list or not 1 <= len(value) <= 3 or not all(type(part) is tuple for part in value):
        return False
    if not all(len(part) == 2 and is_word(part[0]) and part[1] in ("word", "count") for part in value):
        return False
    return len({part[0] for part in value}) == len(value)


def form_columns(thing):
    columns = [tuple(thing[at: at + 2]) for at in range(0, len(thing), 2)]
    return columns if are_columns(columns) else None


def is_row(value, columns):
    if type(value) is not tuple or len(value) != len(columns) or not all(is_part(worth) for worth in value):
        return False
    return all(kind_of(worth) == kind for worth, (column, kind) in zip(value, columns))


def there(state):
    """The tables that are there, by their columns, and the things of the indexes that are."""
    tables, indexes = {}, {}
    for key in in_order(state):
        if key[0] == "table" and len(key) == 2 and is_word(key[1]) and form_columns(state[key]):
            tables[key[1]] = form_columns(state[key])
    for key in in_order(state):
        if key[0] == "index" and len(key) == 2 and is_word(key[1]) and len(state[key]) == 3:
            table, column, manner = state[key]
            if is_word(table) and is_word(column) and manner in ("alone", "any"):
                if table not in tables or tables[table][0][0] != column:
                    indexes[key[1]] = state[key]
    return tables, indexes


def reasons(state):
    """ALL reasons why a state is not right, clause by clause."""
    tables, indexes = there(state)
    keys = [key for key in in_order(state) if key[0] in WORDS]
    found, strange, bare = [], [], []

    def place(index):
        """The place of the column of an index that is there with table and column, None otherwise."""
        if index not in indexes or indexes[index][0] not in tables:
            return None
        names = [column for column, kind in tables[indexes[index][0]]]
        return names.index(indexes[index][1]) if indexes[index][1] in names else None

    def is_strange(key):
        thing = state[key]
        if len(key) != {"table": 2, "index": 2, "row": 3, "by": 4}[key[0]] or not is_word(key[1]):
            return True
        if key[0] == "table":
            return form_columns(thing) is None
        if key[0] == "index":
            return key[1] not in indexes
        if key[0] == "row":
            if not thing or len(thing) > 3 or thing[0] != key[2]:
                return True
            return key[1] in tables and not is_row(thing, tables[key[1]])
        if thing != ():
            return True
        at = place(key[1])
        if at is None:
            return False
        columns = tables[indexes[key[1]][0]]
        return kind_of(key[2]) != columns[at][1] or kind_of(key[3]) != columns[0][1]

    for key in keys:
        if is_strange(key):
            strange.append(key)
            found.append(("strange", key))
    for key in keys:
        if key not in strange and key[0] == "index" and place(key[1]) is None:
            bare.append(key)
        if key not in strange and key[0] == "row" and key[1] not in tables:
            bare.append(key)
        if key not in strange and key[0] == "by":
            at = place(key[1])
            row = None if at is None else ("row", indexes[key[1]][0], key[3])
            if at is None or row not in state or row in strange or state[row][at] != key[2]:
                bare.append(key)
    found += [("bare", key) for key in bare]
    for key in keys:
        if key[0] == "row" and key not in strange and key not in bare:
            for index in indexes:
                if indexes[index][0] == key[1] and place(index) is not None:
                    late = ("by", index, state[key][place(index)], state[key][0])
                    if late not in state:
                        found.append(("lacking", key, late))
    fine = [key for key in keys if key not in strange]
    for key in fine:
        for other in fine:
            if compare(key, other) < 0 and key[0] == other[0] == "index" and state[key][:2] == state[other][:2]:
                found.append(("twice", key, other))
            if compare(key, other) < 0 and key[0] == other[0] == "by" and key[:3] == other[:3]:
                if place(key[1]) is not None and indexes[key[1]][2] == "alone":
                    found.append(("twice", key, other))
    return found


def model_of(state):
    """The model whose table keys are just those of a state, None if there is none."""
    tables, indexes = there(state)
    model = {}
    for table, columns in tables.items():
        names = [column for column, kind in columns]
        own = [(index, thing[1], thing[2]) for index, thing in indexes.items() if thing[0] == table]
        if not all(column in names[1:] for index, column, manner in own):
            return None
        if len({column for index, column, manner in own}) < len(own):
            return None
        rows = [state[key] for key in in_order(state) if key[:2] == ("row", table) and len(key) == 3]
        if not all(is_row(row, columns) for row in rows):
            return None
        for index, column, manner in own:
            worths = [row[names.index(column)] for row in rows]
            if manner == "alone" and len(set(worths)) < len(worths):
                return None
        model[table] = (columns, own, rows)
    part = {key: thing for key, thing in state.items() if key[0] in WORDS}
    return model if composed(model) == part else None


def holds(columns, test, row):
    """Whether a row passes a test, word by word."""
    if test is None:
        return True
    if test[0] == "is":
        worth = row[[column for column, kind in columns].index(test[1])]
        return SIGNS[test[2]](worth, test[3])
    parts = [holds(columns, part, row) for part in test[1:]]
    return {"not": lambda: not parts[0], "and": lambda: all(parts), "or": lambda: any(parts)}[test[0]]()


def is_test(value):
    if type(value) is not tuple or not value or type(value[0]) is not str:
        return False
    if value[0] == "is":
        return len(value) == 4 and is_word(value[1]) and type(value[2]) is str and value[2] in SIGNS and is_part(value[3])
    if value[0] == "not":
        return len(value) == 2 and is_test(value[1])
    if value[0] not in ("and", "or") or len(value) < 3 or not all(is_test(part) for part in value[1:]):
        return False
    return all(part[0] != value[0] for part in value[1:])


def leaves(test):
    if test is None:
        return []
    return [test] if test[0] == "is" else [leaf for part in test[1:] for leaf in leaves(part)]


def why_unfit(columns, names, test):
    kinds = dict(columns)
    if not all(name in kinds for name in names + [leaf[1] for leaf in leaves(test)]):
        return "column"
    return None if all(kind_of(leaf[3]) == kinds[leaf[1]] for leaf in leaves(test)) else "kind"


def test_fits(columns, test):
    return test is None or is_test(test) and why_unfit(columns, [], test) is None


def is_wish(value):
    if type(value) is not tuple or not value or type(value[0]) is not str:
        return False
    fine = lambda test: test is None or is_test(test)
    if value[0] == "count":
        return len(value) == 3 and is_word(value[1]) and fine(value[2])
    if value[0] in ("sum", "least", "greatest", "group"):
        return len(value) == 4 and is_word(value[1]) and is_word(value[2]) and fine(value[3])
    if value[0] != "find" or len(value) != 6:
        return False
    word, names, table, test, order, most = value
    if type(names) is not list or not names or not all(is_word(name) for name in names) or len(set(names)) < len(names):
        return False
    if order is not None:
        if type(order) is not tuple or len(order) != 2 or not is_word(order[0]):
            return False
        if type(order[1]) is not str or order[1] not in ("up", "down"):
            return False
    return is_word(table) and fine(test) and (most is None or type(most) is int and most > 0)


def wish_parts(wish):
    """The table of a wish, the columns that it names, and its test."""
    if wish[0] == "count":
        return wish[1], [], wish[2]
    if wish[0] == "find":
        return wish[2], wish[1] + ([] if wish[4] is None else [wish[4][0]]), wish[3]
    return wish[2], [wish[1]], wish[3]


def why_untold(state, wish):
    model = model_of(state)
    if model is None:
        return "wrong"
    table, names, test = wish_parts(wish)
    if table not in model:
        return "table"
    columns = model[table][0]
    reason = why_unfit(columns, names, test)
    if reason is None and wish[0] == "sum" and dict(columns)[wish[1]] == "word":
        return "kind"
    return reason


def told(state, wish):
    """The answer of a wish that fits a right state, by comparing rows one by one."""
    table, names, test = wish_parts(wish)
    columns, indexes, rows = model_of(state)[table]
    at = {column: place for place, (column, kind) in enumerate(columns)}
    rows = [row for row in rows if holds(columns, test, row)]
    if wish[0] == "count":
        return len(rows)
    if wish[0] != "find":
        worths = [row[at[wish[1]]] for row in rows]
        if wish[0] == "group":
            return [(worth, worths.count(worth)) for worth in sorted(set(worths))]
        if wish[0] == "sum":
            return sum(worths)
        return None if not worths else min(worths) if wish[0] == "least" else max(worths)
    word, wanted, table, test, order, most = wish

    def ahead(one, other):
        if order is not None and one[at[order[0]]] != other[at[order[0]]]:
            less = one[at[order[0]]] < other[at[order[0]]]
            return -1 if less == (order[1] == "up") else 1
        return -1 if one[0] < other[0] else 1

    rows = sorted(rows, key=functools.cmp_to_key(ahead))[:most]
    return [tuple(row[at[name]] for name in wanted) for row in rows]


def acted(state, deed):
    """What a deed of tables answers, and the state behind it: told by models."""
    model = model_of(state)
    if model is None:
        return ("undone", "wrong"), None
    word = deed[0]
    if word == "unindex":
        for table, (columns, indexes, rows) in model.items():
            if deed[1] in [each[0] for each in indexes]:
                model[table] = (columns, [each for each in indexes if each[0] != deed[1]], rows)
                return ("done", 0), model
        return ("undone", "index"), None
    table = deed[2] if word == "index" else deed[1]
    if (table in model) == (word == "make"):
        return ("undone", "table"), None
    if word == "make":
        return ("done", 0), {**model, table: (deed[2], [], [])}
    columns, indexes, rows = model[table]
    if word == "unmake":
        return ("done", len(rows)), {each: model[each] for each in model if each != table}
    return acted_on(model, deed, table)


def acted_on(model, deed, table):
    """Likewise for a deed on a table that is there."""
    columns, indexes, rows = model[table]
    names, word = [column for column, kind in columns], deed[0]
    if word == "index":
        if deed[1] in [each[0] for held in model.values() for each in held[1]]:
            return ("undone", "index"), None
        if deed[3] not in names[1:] or deed[3] in [each[1] for each in indexes]:
            return ("undone", "column"), None
        late, many = (columns, indexes + [(deed[1], deed[3], deed[4])], rows), 0
    elif word in ("put", "exchange"):
        if not is_row(deed[2], columns):
            return ("undone", "kind"), None
        elder = [row for row in rows if row[0] == deed[2][0]]
        if (elder != []) == (word == "put"):
            return ("undone", "row"), None
        late, many = (columns, indexes, [row for row in rows if row not in elder] + [deed[2]]), 1
    else:
        test = deed[4] if word == "set" else deed[2]
        if word == "set" and deed[2] == names[0]:
            return ("undone", "column"), None
        reason = why_unfit(columns, [deed[2]] if word == "set" else [], test)
        if reason is None and word == "set" and kind_of(deed[3]) != dict(columns)[deed[2]]:
            reason = "kind"
        if reason is not None:
            return ("undone", reason), None
        chosen = [row for row in rows if holds(columns, test, row)]
        kept = [row for row in rows if row not in chosen]
        many = len(chosen)
        if word == "set":
            at = names.index(deed[2])
            many = len([row for row in chosen if row[at] != deed[3]])
            kept = kept + [row[:at] + (deed[3],) + row[at + 1:] for row in chosen]
        late = (columns, indexes, kept)
    for index, column, manner in late[1]:
        worths = [row[names.index(column)] for row in late[2]]
        if manner == "alone" and len(set(worths)) < len(worths):
            return ("undone", "double"), None
    return ("done", many), {**model, table: late}


def least_writes(state, model):
    """The least writes that lead a state to the one with the tables of a model."""
    part = {key: thing for key, thing in state.items() if key[0] in WORDS}
    late = composed(model)
    writes = {key: None for key in part if key not in late}
    writes.update({key: late[key] for key in late if key not in part or part[key] != late[key]})
    return {key: writes[key] for key in in_order(writes)}


def is_deed(value):
    if type(value) is not tuple or not value or type(value[0]) is not str:
        return False
    lengths = {"make": 3, "unmake": 2, "index": 5, "unindex": 2, "put": 3, "exchange": 3, "set": 5, "erase": 3}
    if value[0] not in lengths or len(value) != lengths[value[0]] or not is_word(value[1]):
        return False
    fine = lambda test: test is None or is_test(test)
    if value[0] == "make":
        return are_columns(value[2])
    if value[0] in ("put", "exchange"):
        return type(value[2]) is tuple and 1 <= len(value[2]) <= 3 and all(is_part(worth) for worth in value[2])
    if value[0] == "index":
        return is_word(value[2]) and is_word(value[3]) and type(value[4]) is str and value[4] in ("alone", "any")
    if value[0] == "set":
        return is_word(value[2]) and is_part(value[3]) and fine(value[4])
    return value[0] != "erase" or fine(value[2])


def some_worth(chance, kind, worths=None):
    return chance.choice(["a", "b", "ulm", "zz"] if kind == "word" else [0, 1, 2, 9])


def some_model(chance):
    """Tables by chance: at most two, with one to three columns, indexes and a few rows."""
    model = {}
    used = []
    for table in chance.sample(["staff", "goods"], chance.choice([0, 1, 1, 1, 2])):
        names = chance.sample(["name", "town", "pay"], chance.choice([1, 2, 3, 3]))
        columns = [(name, chance.choice(["word", "count"])) for name in names]
        indexes = []
        for name in names[1:]:
            if chance.random() < 0.6:
                index = chance.choice([each for each in ["ia", "ib", "ic", "id"] if each not in used])
                used.append(index)
                indexes.append((index, name, chance.choice(["alone", "any"])))
        rows = []
        for _ in range(chance.randint(0, 4)):
            row = tuple(some_worth(chance, kind) for name, kind in columns)
            taken = [place for place, (name, kind) in enumerate(columns) if place == 0 or
                     [each for each in indexes if each[1] == name and each[2] == "alone"]]
            if all(row[place] != other[place] for other in rows for place in taken):
                rows.append(row)
        model[table] = (columns, indexes, rows)
    return model


def some_state(chance):
    """A right state by chance, with some other keys, in whatever order."""
    state = composed(some_model(chance))
    for key in [("on", "ann"), (3,), ("rows",)]:
        if chance.random() < 0.3:
            state[key] = (1, "a")
    keys = list(state)
    chance.shuffle(keys)
    return {key: state[key] for key in keys}


def some_test(chance, columns, depth, odd=0.0):
    """A test by chance, perhaps with columns or kinds that do not fit."""
    word = chance.choice(["is", "is", "not", "and", "or"]) if depth else "is"
    if word == "is":
        name, kind = chance.choice(columns)
        if chance.random() < odd:
            name = chance.choice(["gone", name])
            kind = chance.choice(["word", "count"])
        return ("is", name, chance.choice(list(SIGNS)), some_worth(chance, kind))
    if word == "not":
        return ("not", some_test(chance, columns, depth - 1, odd))
    parts = [some_test(chance, columns, depth - 1, odd) for _ in range(chance.randint(2, 3))]
    while any(part[0] == word for part in parts):
        parts = [part for part in parts if part[0] != word] + [some_test(chance, columns, 0, odd)]
    if len(parts) < 2:
        parts.append(some_test(chance, columns, 0, odd))
    return (word, *parts)
