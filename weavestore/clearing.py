"""Clearing: which versions nobody can come to any more, and the book without them."""

from weavestore.errors import InvalidHeld, InvalidSnapshot
from weavestore.kinds import are_ascending_below, is_count_below
from weavestore.versions import Book, commits_of, need_book, need_version, next_commit, state_of


def need_held_and_standing(book, held, standing):
    """Raises InvalidHeld, then InvalidSnapshot, unless they are held snapshots and the standing commit of a book."""
    if not are_ascending_below(held, book.newest() + 1):
        raise InvalidHeld(held)
    if not is_count_below(standing, book.newest() + 1):
        raise InvalidSnapshot(standing)


def need_clearing(book, held, standing):
    """Raises what is told for a book, held snapshots and the standing commit."""
    need_book(book)
    need_held_and_standing(book, held, standing)


def first_seeing(versions, held, standing, number):
    """The least commit, a held one or one from the standing one on, that sees a version, None if none does."""
    behind = next_commit(versions, number)
    late = max(standing, number)
    seeing = [commit for commit in held + [late] if commit >= number and (behind is None or commit < behind)]
    return min(seeing, default=None)


def staying(versions, held, standing):
    """The list of the versions of one key that must stay."""
    found = []
    for commit, thing in versions:
        # A version that drops a key of which nothing elder stays tells no more than its absence does.
        if thing is not None or found:
            if first_seeing(versions, held, standing, commit) is not None:
                found.append((commit, thing))
    return found


def kept_rows(book, held, standing):
    """The dictionary, keys ascending, from the keys to the lists, perhaps empty, of the versions that must stay."""
    return {key: staying(versions, held, standing) for key, versions in book.rows().items()}


def gone_rows(book, held, standing):
    """The dictionary, keys ascending, from the keys to the lists, perhaps empty, of the versions that may go."""
    kept = kept_rows(book, held, standing)
    return {
        key: [version for version in versions if version not in kept[key]] for key, versions in book.rows().items()
    }


def places_in(rows):
    """The list of the tuples (key, number) of the versions of rows."""
    return [(key, version[0]) for key, versions in rows.items() for version in versions]


def cleared_book(book, held, standing):
    """The book without all versions that may go."""
    kept = kept_rows(book, held, standing)
    return Book({key: versions for key, versions in kept.items() if versions}, book.newest())


def may_go(book, held, standing):
    """Returns the ascending list of the tuples (key, number) of the versions that may go."""
    need_clearing(book, held, standing)
    return places_in(gone_rows(book, held, standing))


def must_stay(book, held, standing):
    """Returns the ascending list of the tuples (key, number) of the versions that must stay."""
    need_clearing(book, held, standing)
    return places_in(kept_rows(book, held, standing))


def cleared(book, held, standing):
    """Returns the book without all versions that may go."""
    need_clearing(book, held, standing)
    return cleared_book(book, held, standing)


def who_sees(book, held, standing, key, number):
    """Returns the least commit, a held one or one from the standing one on, that sees a version, None if none does."""
    need_clearing(book, held, standing)
    need_version(book, key, number)
    return first_seeing(book.rows()[key], held, standing, number)


def is_same_for(one, other, held, standing):
    """Returns whether two books have the same states at all held commits and all from the standing one on."""
    need_book(one)
    need_book(other)
    need_held_and_standing(one, held, standing)
    # Between two commits with versions no state changes.
    late = [commit for commit in commits_of(one) + commits_of(other) if commit > standing]
    return all([state_of(one, commit) == state_of(other, commit) for commit in held + [standing] + late])


def is_cleared(book, held, standing):
    """Returns whether nothing may go."""
    return may_go(book, held, standing) == []
