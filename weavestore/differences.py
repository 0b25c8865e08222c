"""Differences of snapshots: what is other at one commit than at another one, laid, turned, put together."""

from weavestore.changes import changes_between
from weavestore.errors import InvalidSnapshot, InvalidWrites, Refused
from weavestore.hangs import have_same_forms
from weavestore.keys import ascending, is_key, key_order, may_be_written, with_writes
from weavestore.kinds import is_count_below, is_tuple_of
from weavestore.needs import need_state
from weavestore.schemas import Layout
from weavestore.tables import why_wrong
from weavestore.versions import need_snapshot, seen_of, state_of


def need_commits(book, one, other):
    """Raises InvalidBook, then InvalidSnapshot, one by one, unless they are a book and two commits of it or 0."""
    need_snapshot(book, one)
    if not is_count_below(other, book.newest() + 1):
        raise InvalidSnapshot(other)


def thing_seen(versions, commit):
    """The thing of a key, by its versions, at a commit, None if there is none."""
    version = seen_of(versions, commit)
    return None if version is None else version[1]


def versions_through(book, one, other):
    """The dictionary, keys ascending, from the keys to the commits of their versions between two commits."""
    low, high = min(one, other), max(one, other)
    return {
        key: [number for number, thing in versions if low < number <= high] for key, versions in book.rows().items()
    }


def change_between(book, one, other):
    """The difference from the state at one commit to that at another one."""
    rows = book.rows()
    found = []
    for key, commits in versions_through(book, one, other).items():
        if commits:
            elder, newer = thing_seen(rows[key], one), thing_seen(rows[key], other)
            if elder != newer:
                found.append((key, elder, newer))
    return found


def difference(book, one, other):
    """Returns the difference from the state at one commit to the state at another one."""
    need_commits(book, one, other)
    return change_between(book, one, other)


def looked_through(book, one, other):
    """Returns the list of the tuples (key, commit) of the versions between two commits."""
    need_commits(book, one, other)
    return [(key, number) for key, commits in versions_through(book, one, other).items() for number in commits]


def is_part(value):
    """Whether any object is a tuple of a key and two unlike things, or a thing and None."""
    if not is_tuple_of(value, 3) or not is_key(value[0]):
        return False
    return may_be_written(value[1]) and may_be_written(value[2]) and value[1] != value[2]


def is_difference(value):
    """Whether any object is a difference."""
    if not isinstance(value, list) or not all([is_part(part) for part in value]):
        return False
    return all([key_order(one[0]) < key_order(other[0]) for one, other in zip(value, value[1:])])


def need_difference(difference):
    """Raises InvalidWrites unless it is a difference."""
    if not is_difference(difference):
        raise InvalidWrites(difference)


def need_two_differences(first, second):
    """Raises InvalidWrites, one by one, unless they are differences."""
    need_difference(first)
    need_difference(second)


def elders(difference):
    """The dictionary from the keys of a difference to their elder things."""
    return {key: elder for key, elder, newer in difference}


def newers(difference):
    """The dictionary from the keys of a difference to their newer things."""
    return {key: newer for key, elder, newer in difference}


def laid_over(state, difference):
    """Returns the state with a difference, keys ascending."""
    need_state(state)
    need_difference(difference)
    if not all([state.get(key) == elder for key, elder, newer in difference]):
        raise Refused(difference)
    return with_writes(state, newers(difference))


def turned_back(difference):
    """Returns the difference from the newer to the elder."""
    need_difference(difference)
    return [(key, newer, elder) for key, elder, newer in difference]


def put_together(first, second):
    """The difference of two, the elder things by the first one, the newer ones by the second one, where they are."""
    elder = {**elders(second), **elders(first)}
    newer = {**newers(first), **newers(second)}
    return [(key, elder[key], newer[key]) for key in ascending(elder) if elder[key] != newer[key]]


def one_behind(first, second):
    """Returns the difference of both, one behind the other."""
    need_two_differences(first, second)
    between = newers(first)
    if not all([between[key] == elder for key, elder, newer in second if key in between]):
        raise Refused(second)
    return put_together(first, second)


def meeting(first, second):
    """The ascending list of the keys of both at which the newer things are unlike."""
    newer = newers(second)
    return [key for key, elder, late in first if key in newer and newer[key] != late]


def meets(first, second):
    """Returns the ascending list of the keys at which two differences meet."""
    need_two_differences(first, second)
    return meeting(first, second)


def both_of(first, second):
    """Returns the difference of all keys of both."""
    need_two_differences(first, second)
    elder = elders(first)
    if meeting(first, second) or not all([elder[key] == thing for key, thing, late in second if key in elder]):
        raise Refused(second)
    return put_together(first, second)


def merged(book, base, mine, theirs):
    """Returns the keys at which two differences meet and, if none, the state of both and why it is not right."""
    need_commits(book, base, mine)
    need_commits(book, base, theirs)
    first, second = change_between(book, base, mine), change_between(book, base, theirs)
    keys = meeting(first, second)
    if keys:
        return (keys, None, None)
    state = with_writes(state_of(book, base), newers(put_together(first, second)))
    return ([], state, why_wrong(state))


def table_changes(book, one, other):
    """Returns the changes of rows from the state at one commit to the state at another one."""
    need_commits(book, one, other)
    elder, newer = state_of(book, one), state_of(book, other)
    if not have_same_forms(elder, newer):
        raise Refused(book)
    return changes_between(elder, newer, Layout(elder).tables)
