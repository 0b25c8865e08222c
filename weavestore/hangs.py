"""What an answer hangs on: changes of rows, what is kept of wishes, and answers that are led on."""

from weavestore.changes import answer_by_kept, are_changes, are_kept, changes_between, has_kinds_of, is_change
from weavestore.changes import fits_tables, kept_behind, kept_of, key_worth_of
from weavestore.errors import InvalidName, InvalidQuestion, InvalidRow, InvalidTable, InvalidWrites, Refused
from weavestore.kinds import is_word
from weavestore.needs import need_state
from weavestore.partings import rows_that_part, tells_over
from weavestore.questions import need_fitting, need_wish, why_untold
from weavestore.schemas import Layout, are_columns, is_row, row_key, rows_of
from weavestore.tables import forms, is_right
from weavestore.wishes import is_wish, names_of, table_of, test_of, why_unfit


def have_same_forms(one, other):
    """Whether two states are right and have the same forms."""
    return is_right(one) and is_right(other) and forms(one) == forms(other)


def changes_of(one, other):
    """Returns the list of the changes of rows from one right state to another one with the same forms."""
    need_state(one)
    need_state(other)
    if not have_same_forms(one, other):
        raise Refused(other)
    return changes_between(one, other, Layout(one).tables)


def kept_in(state, wish):
    """What is kept of a wish that fits a right state."""
    table = table_of(wish)
    return kept_of(Layout(state).tables[table], wish, rows_of(state, table))


def kept(state, wish):
    """Returns what is kept of a wish."""
    need_fitting(state, wish)
    return kept_in(state, wish)


def told_by(wish, held):
    """Returns the answer of a wish by what is kept of it alone."""
    need_wish(wish)
    if not are_kept(wish, held):
        raise InvalidWrites(held)
    return answer_by_kept(wish, held)


def need_columns_and_wish(columns, wish):
    """Raises InvalidTable, then InvalidQuestion, unless they are columns and a wish that fits them."""
    if not are_columns(columns):
        raise InvalidTable(columns)
    if not is_wish(wish) or why_unfit(columns, names_of(wish), test_of(wish)) is not None:
        raise InvalidQuestion(wish)
    if wish[0] == "sum" and (wish[1], "count") not in columns:
        raise InvalidQuestion(wish)


def of_table(wish, changes):
    """The list of the changes of a wish's table."""
    return [change for change in changes if change[0] == table_of(wish)]


def led_on(columns, wish, held, changes):
    """Returns what is kept of a wish behind changes."""
    need_columns_and_wish(columns, wish)
    if not are_kept(wish, held) or not all([has_kinds_of(columns, wish, part) for part in held]):
        raise InvalidWrites(held)
    if not are_changes(changes, {table_of(wish): columns}):
        raise InvalidRow(changes)
    return kept_behind(columns, wish, held, of_table(wish, changes))


def are_elder_rows(rows, tables, changes):
    """Whether the elder rows of changes are just what some tables, by their columns, have, by their row keys."""
    for table, elder, newer in changes:
        if table not in tables or rows.get(row_key(table, newer if elder is None else elder)) != elder:
            return False
    return True


def hangs(state, wish, changes):
    """Returns whether the answer of a wish is another one behind changes."""
    need_state(state)
    need_wish(wish)
    tables = Layout(state).tables
    if not are_changes(changes, tables):
        raise InvalidRow(changes)
    if why_untold(state, wish) is not None or not are_elder_rows(state, tables, changes):
        raise Refused(state)
    held = kept_in(state, wish)
    late = kept_behind(tables[table_of(wish)], wish, held, of_table(wish, changes))
    return answer_by_kept(wish, held) != answer_by_kept(wish, late)


def need_change(columns, wish, change):
    """Raises what is told for columns, a wish that fits them, and a change of its table."""
    need_columns_and_wish(columns, wish)
    if not is_change(change) or change[0] != table_of(wish) or not fits_tables(change, {change[0]: columns}):
        raise InvalidRow(change)


def is_beside(columns, wish, change):
    """Returns whether the answer of a wish is the same behind a change, whatever other rows there are."""
    return parting_rows(columns, wish, change) is None


def parting_rows(columns, wish, change):
    """Returns any list of at most two rows over which the answer is another one behind a change, None if none."""
    need_change(columns, wish, change)
    return rows_that_part(columns, wish, change)


def is_parting(columns, wish, change, value):
    """Returns whether any object is a list of at most two rows over which the answer is another one behind a change."""
    need_change(columns, wish, change)
    if not isinstance(value, list) or len(value) > 2 or not all([is_row(row, columns) for row in value]):
        return False
    if not all([one[0] < other[0] for one, other in zip(value, value[1:])]):
        return False
    worth = key_worth_of(change)
    if [row for row in value if row[0] == worth] != [row for row in [change[1]] if row is not None]:
        return False
    return tells_over(columns, wish, change, value)


def are_wishes(value):
    """Whether any object is a dictionary from words to wishes."""
    if not isinstance(value, dict) or not all([is_word(name) for name in value]):
        return False
    return all([is_wish(wish) for wish in value.values()])


def own_wish(wish):
    """A wish like one, with a list of its own."""
    return tuple([list(part) if isinstance(part, list) else part for part in wish])


class Standing:
    """Wishes over a right state, whose answers are led on by changes alone."""

    def __init__(self, state, wishes):
        need_state(state)
        if not are_wishes(wishes):
            raise InvalidName(wishes)
        if not is_right(state) or not all([why_untold(state, wish) is None for wish in wishes.values()]):
            raise Refused(state)
        self._tables = Layout(state).tables
        self._rows = {key: state[key] for key in state if key[0] == "row"}
        self._wishes = {name: own_wish(wishes[name]) for name in sorted(wishes)}
        self._held = {name: kept_in(state, wish) for name, wish in self._wishes.items()}
        self._turned = []
        self._looks = 0

    def lead(self, changes):
        """Lays changes, and leads the answers on."""
        if not are_changes(changes, self._tables):
            raise InvalidRow(changes)
        if not are_elder_rows(self._rows, self._tables, changes):
            raise Refused(changes)
        elder = self.answers()
        for name, wish in self._wishes.items():
            own = of_table(wish, changes)
            self._held[name] = kept_behind(self._tables[table_of(wish)], wish, self._held[name], own)
            self._looks = self._looks + len(own)
        for change in changes:
            self._put(change)
        newer = self.answers()
        self._turned = [name for name in newer if newer[name] != elder[name]]

    def _put(self, change):
        """Lays one change of a row."""
        table, elder, newer = change
        if newer is None:
            del self._rows[row_key(table, elder)]
        else:
            self._rows[row_key(table, newer)] = newer

    def answers(self):
        """Returns the dictionary of the answers, names ascending."""
        return {name: answer_by_kept(wish, self._held[name]) for name, wish in self._wishes.items()}

    def turned(self):
        """Returns the ascending list of the names whose answers the last changes made others."""
        return list(self._turned)

    def looked_at(self):
        """Returns how many changes were ever looked at."""
        return self._looks
