"""Contents of the pages of a shelf: the root, the directory and rows; their forms, and their texts both ways."""

from weavestore.figures import are_figures, count_of, figures_of
from weavestore.keys import ascending, is_key, key_order
from weavestore.kinds import is_count, is_count_from_one, is_tuple_of, is_word
from weavestore.versions import are_rows

MOST_SIGNS = 108
ROOT_PAGE = 0
DIRECTORY_PAGE = 1
FIRST_ROWS = 2
NOTHING = "-"


def are_pins(value):
    """Whether any object is a dictionary from words to counts."""
    if not isinstance(value, dict) or not all([is_word(name) for name in value]):
        return False
    return all([is_count(commit) for commit in value.values()])


def is_root(value):
    """Whether any object is the content of a root."""
    if not is_tuple_of(value, 4):
        return False
    line, place, newest, pins = value
    return is_count_from_one(line) and is_count(place) and is_count(newest) and are_pins(pins)


def is_entry(value):
    """Whether any object is an entry of a directory."""
    if not is_tuple_of(value, 2) or not is_count(value[1]) or value[1] < FIRST_ROWS:
        return False
    return value[0] is None or is_key(value[0])


def is_directory(value):
    """Whether any object is the content of a directory, of whatever shelf."""
    if not isinstance(value, list) or not value or not all([is_entry(entry) for entry in value]):
        return False
    keys = [key for key, page in value]
    if keys[0] is not None or None in keys[1:] or len({page for key, page in value}) < len(value):
        return False
    return all([key_order(one) < key_order(other) for one, other in zip(keys[1:], keys[2:])])


def is_content_of(page, value):
    """Whether any object is a content of a page, of whatever length."""
    if page == ROOT_PAGE:
        return is_root(value)
    if page == DIRECTORY_PAGE:
        return is_directory(value)
    return are_rows(value)


def fresh_content(page, content):
    """A content like one, its keys or names ascending, with lists and dictionaries of its own."""
    if page == ROOT_PAGE:
        line, place, newest, pins = content
        return (line, place, newest, {name: pins[name] for name in sorted(pins)})
    if page == DIRECTORY_PAGE:
        return list(content)
    return {key: list(content[key]) for key in ascending(content)}


def part_text(part):
    """The text of a word or a count."""
    return part if isinstance(part, str) else figures_of(part)


def parts_text(parts):
    """The text of a key or of a thing: its words and counts with blanks between."""
    return " ".join([part_text(part) for part in parts])


def version_text(version):
    """The text of a version."""
    commit, thing = version
    return figures_of(commit) + ":" + (NOTHING if thing is None else parts_text(thing))


def rows_text(rows):
    """The text of rows."""
    texts = []
    for key in ascending(rows):
        texts.append(parts_text(key) + "=" + ",".join([version_text(version) for version in rows[key]]))
    return ";".join(texts)


def entry_text(entry):
    """The text of an entry of a directory."""
    key, page = entry
    return figures_of(page) if key is None else parts_text(key) + ">" + figures_of(page)


def root_text(root):
    """The text of a root."""
    line, place, newest, pins = root
    texts = [parts_text((line, place, newest))]
    return ";".join(texts + [name + ":" + figures_of(pins[name]) for name in sorted(pins)])


def text_of_content(page, content):
    """The text of a content of a page."""
    if page == ROOT_PAGE:
        return root_text(content)
    if page == DIRECTORY_PAGE:
        return ";".join([entry_text(entry) for entry in content])
    return rows_text(content)


def fits_page(page, content):
    """Whether the text of a content has room in its page."""
    return len(text_of_content(page, content)) <= MOST_SIGNS


def read_part(text):
    """The count with these figures; any other text as it is."""
    return count_of(text) if are_figures(text) else text


def read_parts(text):
    """The tuple of which this might be the text."""
    return tuple([read_part(part) for part in text.split(" ")])


def read_thing_of(text):
    """The thing, or None, of which this might be the text."""
    if text == NOTHING:
        return None
    return () if text == "" else read_parts(text)


def read_version(text):
    """The version of which this might be the text."""
    commit, _, thing = text.partition(":")
    return (read_part(commit), read_thing_of(thing))


def read_rows(text):
    """The rows of which this might be the text."""
    rows = {}
    if text != "":
        for piece in text.split(";"):
            key, _, versions = piece.partition("=")
            rows[read_parts(key)] = [read_version(version) for version in versions.split(",")]
    return rows


def read_entry(text):
    """The entry of a directory of which this might be the text."""
    key, sign, page = text.rpartition(">")
    return (read_parts(key) if sign else None, read_part(page))


def read_root(text):
    """The root of which this might be the text."""
    pieces = text.split(";")
    pins = {}
    for piece in pieces[1:]:
        name, _, commit = piece.partition(":")
        pins[name] = read_part(commit)
    return (*read_parts(pieces[0]), pins)


def content_of_text(page, text):
    """The content of a page that has a text, None if there is none."""
    if page == ROOT_PAGE:
        content = read_root(text)
    elif page == DIRECTORY_PAGE:
        content = [read_entry(piece) for piece in text.split(";")]
    else:
        content = read_rows(text)
    # What is read may be written otherwise, so it is held against what would be written.
    if not is_content_of(page, content) or text_of_content(page, content) != text:
        return None
    return content
