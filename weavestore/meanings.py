"""What the deeds of a shelf mean: their forms, and the contents that they make."""

from weavestore.clearing import staying
from weavestore.contents import DIRECTORY_PAGE, FIRST_ROWS, ROOT_PAGE, fits_page, fresh_content
from weavestore.deeds import is_deed
from weavestore.errors import Full, InvalidDeed, Refused
from weavestore.keys import ascending, is_key, key_order, may_be_written
from weavestore.kinds import are_ascending_counts, is_count, is_count_below, is_count_from_one, is_tuple_of, is_word


def are_words_of_root(words):
    """Whether the words of a deed are those of one that makes a root."""
    if words[0] == "pin":
        return len(words) == 3 and is_word(words[1]) and is_count(words[2])
    if words[0] == "unpin":
        return len(words) == 2 and is_word(words[1])
    if words[0] != "begin" or len(words) != 4:
        return False
    return is_count_from_one(words[1]) and is_count(words[2]) and is_count(words[3])


def are_words_of_directory(words, pages):
    """Whether the words of a deed are those of one that makes the directory of a shelf of so many pages."""
    if words[0] == "point":
        return len(words) == 3 and is_key(words[1]) and is_count_below(words[2], pages)
    return words[0] == "unpoint" and len(words) == 2 and is_key(words[1])


def are_words_of_rows(words):
    """Whether the words of a deed are those of one that makes rows of its own page alone."""
    if words[0] == "put":
        return len(words) == 4 and is_key(words[1]) and is_count_from_one(words[2]) and may_be_written(words[3])
    if words[0] == "trim":
        return len(words) == 2 and is_key(words[1])
    if words[0] != "clear" or len(words) != 3:
        return False
    return isinstance(words[1], tuple) and are_ascending_counts(list(words[1])) and is_count(words[2])


def is_copy(deed, pages):
    """Whether a deed whose words begin so is a copy of rows between two pages of a shelf of so many."""
    number, page, reads, words = deed
    if not is_tuple_of(words, 3) or not is_key(words[1]) or not is_count_below(words[2], pages):
        return False
    return min(page, words[2]) >= FIRST_ROWS and page != words[2] and reads == sorted([page, words[2]])


def is_meant(value, pages):
    """Whether any object is a deed of one of the forms for a shelf of so many pages."""
    if not is_deed(value) or value[1] >= pages or not value[3]:
        return False
    number, page, reads, words = value
    if words[0] == "copy":
        return is_copy(value, pages)
    if reads != [page]:
        return False
    if page == ROOT_PAGE:
        return are_words_of_root(words)
    if page == DIRECTORY_PAGE:
        return are_words_of_directory(words, pages)
    return are_words_of_rows(words)


def is_refused(shelf, deed):
    """Whether a deed can't be done on a shelf as it stands."""
    number, page, reads, words = deed
    if words[0] == "put":
        return any([commit >= words[2] for commit, thing in shelf[page].get(words[1], [])])
    if words[0] == "point":
        entries = shelf[DIRECTORY_PAGE]
        return words[2] < FIRST_ROWS or any([key == words[1] or used == words[2] for key, used in entries])
    if words[0] == "unpoint":
        return words[1] not in [key for key, used in shelf[DIRECTORY_PAGE]]
    return words[0] == "unpin" and words[1] not in shelf[ROOT_PAGE][3]


def made_root(root, words):
    """The root behind a deed."""
    line, place, newest, pins = root
    if words[0] == "begin":
        return (words[1], words[2], words[3], pins)
    late = {name: commit for name, commit in pins.items() if name != words[1]}
    if words[0] == "pin":
        late[words[1]] = words[2]
    return (line, place, newest, late)


def made_directory(entries, words):
    """The directory behind a deed."""
    if words[0] == "unpoint":
        return [entry for entry in entries if entry[0] != words[1]]
    # The entry of the keys from the beginning on stands ahead of all others.
    return entries[:1] + sorted(entries[1:] + [(words[1], words[2])], key=lambda entry: key_order(entry[0]))


def rows_ahead(rows, key):
    """The rows of the keys ahead of one."""
    return {each: rows[each] for each in rows if key_order(each) < key_order(key)}


def rows_from(rows, key):
    """The rows of the keys from one on."""
    return {each: rows[each] for each in rows if key_order(each) >= key_order(key)}


def cleared_rows(rows, held, standing):
    """The rows without the versions that may go."""
    kept = {key: staying(versions, held, standing) for key, versions in rows.items()}
    return {key: versions for key, versions in kept.items() if versions}


def with_version(rows, key, version):
    """The rows, keys ascending, with one version more."""
    late = {**rows, key: rows.get(key, []) + [version]}
    return {each: late[each] for each in ascending(late)}


def made_rows(shelf, page, words):
    """The rows behind a deed."""
    rows = shelf[page]
    if words[0] == "put":
        return with_version(rows, words[1], (words[2], words[3]))
    if words[0] == "copy":
        return {**rows_ahead(rows, words[1]), **rows_from(shelf[words[2]], words[1])}
    if words[0] == "trim":
        return rows_ahead(rows, words[1])
    return cleared_rows(rows, list(words[1]), words[2])


def content_made(shelf, deed):
    """The content that a deed's page has behind it; raises InvalidDeed, Refused, Full with the deed."""
    if not is_meant(deed, len(shelf)):
        raise InvalidDeed(deed)
    if is_refused(shelf, deed):
        raise Refused(deed)
    number, page, reads, words = deed
    if page == ROOT_PAGE:
        content = made_root(shelf[page], words)
    elif page == DIRECTORY_PAGE:
        content = made_directory(shelf[page], words)
    else:
        content = made_rows(shelf, page, words)
    if not fits_page(page, content):
        raise Full(deed)
    return fresh_content(page, content)


def shelf_behind(shelf, deeds):
    """The shelf behind some deeds; raises what the first one raises that raises an error."""
    late = list(shelf)
    for deed in deeds:
        late[deed[1]] = content_made(late, deed)
    return late
