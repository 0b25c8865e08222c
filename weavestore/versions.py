"""Books of versions: which thing each commit sees under a key."""

from weavestore.errors import InvalidBook, InvalidCommit, InvalidSnapshot, InvalidWrites
from weavestore.keys import are_writes, ascending, between_in, first_in, is_key, may_be_written
from weavestore.kinds import ascends, is_count, is_count_below, is_count_from_one, is_tuple_of
from weavestore.needs import need_key


class Book:
    """A book: the versions of each key, and the number of the newest commit."""

    def __init__(self, rows, newest):
        if not are_rows(rows):
            raise InvalidBook(rows)
        greatest = max([version[0] for versions in rows.values() for version in versions], default=0)
        if not is_count(newest) or newest < greatest:
            raise InvalidCommit(newest)
        self._rows = {key: list(rows[key]) for key in ascending(rows)}
        self._newest = newest

    def rows(self):
        """Returns the dictionary, keys ascending, from the keys to the lists of their versions."""
        return {key: list(versions) for key, versions in self._rows.items()}

    def newest(self):
        """Returns the number of the newest commit."""
        return self._newest

    def __eq__(self, other):
        return isinstance(other, Book) and self._rows == other._rows and self._newest == other._newest


def are_versions(value):
    """Whether any object is a list, not empty, of versions, commits ascending."""
    if not isinstance(value, list) or not value or not all([is_tuple_of(version, 2) for version in value]):
        return False
    if not all([is_count_from_one(commit) and may_be_written(thing) for commit, thing in value]):
        return False
    return ascends([commit for commit, thing in value])


def are_rows(value):
    """Whether any object is a dictionary from keys to lists of versions."""
    if not isinstance(value, dict) or not all([is_key(key) for key in value]):
        return False
    return all([are_versions(versions) for versions in value.values()])


def need_book(book):
    """Raises InvalidBook unless it is a book."""
    if not isinstance(book, Book):
        raise InvalidBook(book)


def need_snapshot(book, commit):
    """Raises InvalidBook, then InvalidSnapshot, unless they are a book and a commit of it or 0."""
    need_book(book)
    if not is_count_below(commit, book.newest() + 1):
        raise InvalidSnapshot(commit)


def need_version(book, key, number):
    """Raises InvalidKey, then InvalidCommit, unless the number is that of a version of the key."""
    need_key(key)
    if not is_count(number) or number not in [version[0] for version in book.rows().get(key, [])]:
        raise InvalidCommit(number)


def seen_of(versions, commit):
    """The version, among those of one key, that a commit sees, None if there is none."""
    elder = [version for version in versions if version[0] <= commit]
    if not elder:
        return None
    return elder[-1]


def seen_in(book, commit):
    """The dictionary, keys ascending, from the keys to the versions that a commit, perhaps a later one, sees."""
    told = {key: seen_of(versions, commit) for key, versions in book.rows().items()}
    return {key: version for key, version in told.items() if version is not None}


def state_of(book, commit):
    """The state at a commit; at one above the newest that at the newest."""
    return {key: version[1] for key, version in seen_in(book, commit).items() if version[1] is not None}


def next_commit(versions, number):
    """The commit of the version behind one, None if there is none."""
    late = [commit for commit, thing in versions if commit > number]
    if not late:
        return None
    return late[0]


def state_at(book, commit):
    """Returns the state of a book at a commit."""
    need_snapshot(book, commit)
    return state_of(book, commit)


def laid_on(book, commit, writes):
    """The book with one version of a commit, its newest one then, more for each key of writes."""
    rows = book.rows()
    for key, thing in writes.items():
        rows[key] = rows.get(key, []) + [(commit, thing)]
    return Book(rows, commit)


def laid(book, commit, writes):
    """Returns the book with one version of a new commit more for each key of writes."""
    need_book(book)
    if not is_count(commit) or commit <= book.newest():
        raise InvalidCommit(commit)
    if not are_writes(writes) or not writes:
        raise InvalidWrites(writes)
    return laid_on(book, commit, writes)


def look(book, commit, key):
    """Returns the thing of a key in a state, None if it has none."""
    need_snapshot(book, commit)
    need_key(key)
    return state_of(book, commit).get(key)


def between(book, commit, low, high):
    """Returns the list of the tuples (key, thing) of a state from one key on and below another one."""
    need_snapshot(book, commit)
    need_key(low)
    need_key(high)
    return between_in(state_of(book, commit), low, high)


def first_from(book, commit, key):
    """Returns the first tuple (key, thing) of a state at or behind a key, None if there is none."""
    need_snapshot(book, commit)
    need_key(key)
    return first_in(state_of(book, commit), key)


def many_between(book, commit, low, high):
    """Returns how many keys of a state there are from one on and below another one."""
    return len(between(book, commit, low, high))


def seen(book, commit):
    """Returns the ascending list of the tuples (key, number) of the versions that a commit sees."""
    need_snapshot(book, commit)
    return [(key, version[0]) for key, version in seen_in(book, commit).items()]


def sees(book, commit, key, number):
    """Returns whether a commit sees a version."""
    need_snapshot(book, commit)
    need_version(book, key, number)
    version = seen_of(book.rows()[key], commit)
    return version is not None and version[0] == number


def span_of(book, key, number):
    """Returns the first commit that sees a version, and the first behind it that does not, None if all do."""
    need_book(book)
    need_version(book, key, number)
    return (number, next_commit(book.rows()[key], number))


def history_of(book, key):
    """Returns the list of the versions of a key."""
    need_book(book)
    need_key(key)
    return book.rows().get(key, [])


def commits_of(book):
    """Returns the ascending list of all commits that have a version."""
    need_book(book)
    return sorted({commit for versions in book.rows().values() for commit, thing in versions})


def writes_of(book, number):
    """Returns the writes of a commit, as far as versions of it are kept."""
    need_book(book)
    if not is_count_from_one(number):
        raise InvalidCommit(number)
    return {key: thing for key, versions in book.rows().items() for commit, thing in versions if commit == number}
