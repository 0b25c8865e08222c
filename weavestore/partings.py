"""Changes that are beside a wish, and the rows over which a change tells."""

from weavestore.changes import answer_by_kept, given_by, kept_behind, kept_of
from weavestore.keys import worth_behind
from weavestore.spans import least_worth
from weavestore.wishes import does_pass, leaves_of, test_of


def tells_over(columns, wish, change, rows):
    """Whether the answer over some rows, by key worths ascending, is another one behind a change."""
    held = kept_of(columns, wish, rows)
    return answer_by_kept(wish, held) != answer_by_kept(wish, kept_behind(columns, wish, held, [change]))


def may_be_parted(columns, wish, change):
    """Whether both rows of a change pass and give a find the same, but for the worths of its order."""
    table, elder, newer = change
    if wish[0] != "find" or wish[4] is None or elder is None or newer is None:
        return False
    if not does_pass(columns, test_of(wish), elder) or not does_pass(columns, test_of(wish), newer):
        return False
    one, other = given_by(columns, wish, elder), given_by(columns, wish, newer)
    return one[0] == other[0] and one[1] != other[1]


def worths_to_try(wish, change, column, kind, at):
    """Worths of a column such that each other one stands to a test and to the rows of a change as one of them does."""
    told = [leaf[3] for leaf in leaves_of(test_of(wish)) if leaf[1] == column] + [change[1][at], change[2][at]]
    behind = [worth_behind(worth) for worth in told]
    return sorted(set([least_worth(kind)] + told + [worth for worth in behind if worth is not None]))


def rows_to_try(columns, wish, change):
    """Rows of the columns such that each other one stands to a test and to the rows of a change as one of them does."""
    rows = [()]
    for at, (column, kind) in enumerate(columns):
        worths = worths_to_try(wish, change, column, kind, at)
        rows = [(*row, worth) for row in rows for worth in worths]
    return rows


def in_order(change, rows):
    """The elder row of a change, if there is one, with others, by key worths ascending."""
    elder = [] if change[1] is None else [change[1]]
    return sorted(elder + rows, key=lambda row: row[0])


def rows_that_part(columns, wish, change):
    """At most two rows, by key worths ascending, over which a change tells, None if there are none."""
    alone = in_order(change, [])
    if tells_over(columns, wish, change, alone):
        return alone
    if not may_be_parted(columns, wish, change):
        return None
    for row in rows_to_try(columns, wish, change):
        both = in_order(change, [row])
        if row[0] != change[1][0] and tells_over(columns, wish, change, both):
            return both
    return None
