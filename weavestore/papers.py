"""Papers: keys, things, writes, pictures, books and histories as texts, read back as the very same."""

from weavestore.contents import read_part
from weavestore.courses import are_events
from weavestore.disc import MOST_CELLS
from weavestore.errors import InvalidChoice, InvalidHistory, InvalidKey, InvalidText, InvalidThing
from weavestore.errors import InvalidWrites
from weavestore.keys import are_writes, is_key, may_be_written
from weavestore.kinds import is_content, is_count, is_count_below, is_row_of_cells
from weavestore.pieces import event_text, piece_of, read_event, read_piece, read_rows_line, text_of_book
from weavestore.pieces import text_of_picture, text_of_writes, writes_by_text
from weavestore.versions import Book, are_rows, need_book


def need_text(text):
    """Raises InvalidText unless it is a string."""
    if not isinstance(text, str):
        raise InvalidText(text)


def key_text(key):
    """Returns the piece of a key."""
    if not is_key(key):
        raise InvalidKey(key)
    return piece_of(key)


def read_key(text):
    """Returns the key that has a piece."""
    need_text(text)
    key = read_piece(text)
    # What is read may be written otherwise, so it is held against what would be written, here and below.
    if not is_key(key) or piece_of(key) != text:
        raise InvalidText(text)
    return key


def thing_text(thing):
    """Returns the piece of a thing or of None."""
    if not may_be_written(thing):
        raise InvalidThing(thing)
    return piece_of(thing)


def read_thing(text):
    """Returns the thing, or None, that has a piece."""
    need_text(text)
    thing = read_piece(text)
    if not may_be_written(thing) or piece_of(thing) != text:
        raise InvalidText(text)
    return thing


def writes_text(writes):
    """Returns the text of writes."""
    if not are_writes(writes):
        raise InvalidWrites(writes)
    return text_of_writes(writes)


def read_writes(text):
    """Returns the writes that have a text."""
    need_text(text)
    writes = writes_by_text(text)
    if not are_writes(writes) or text_of_writes(writes) != text:
        raise InvalidText(text)
    return writes


def is_list_of_cells(value):
    """Whether any object is a list of contents and None for as many cells as a disc may have."""
    return is_row_of_cells(value) and 1 <= len(value) <= MOST_CELLS


def picture_text(picture):
    """Returns the text of a list of contents and None."""
    if not is_list_of_cells(picture):
        raise InvalidChoice(picture)
    return text_of_picture(picture)


def picture_by_text(text):
    """The list of contents and None of which this might be the text, None if there is none."""
    rows = [[read_part(piece) for piece in line.split(" ")] for line in text.split("\n")]
    many = rows[0][-1]
    if not is_count_below(many, MOST_CELLS + 1):
        return None
    picture = [None] * many
    for row in rows[1:]:
        if len(row) != 3 or not is_count_below(row[0], many) or not is_content((row[1], row[2])):
            return None
        picture[row[0]] = (row[1], row[2])
    return picture


def read_picture(text):
    """Returns the list of contents and None that has a text."""
    need_text(text)
    picture = picture_by_text(text)
    if not is_list_of_cells(picture) or text_of_picture(picture) != text:
        raise InvalidText(text)
    return picture


def book_text(book):
    """Returns the text of a book."""
    need_book(book)
    return text_of_book(book)


def book_by_text(text):
    """The book of which this might be the text, None if there is none."""
    lines = text.split("\n")
    _, _, newest = lines[0].partition(" ")
    pairs = [read_rows_line(line) for line in lines[1:]]
    if not all([is_key(key) for key, versions in pairs]):
        return None
    rows = {key: versions for key, versions in pairs}
    number = read_part(newest)
    if not are_rows(rows) or not is_count(number):
        return None
    if any([commit > number for versions in rows.values() for commit, thing in versions]):
        return None
    return Book(rows, number)


def read_book(text):
    """Returns the book that has a text."""
    need_text(text)
    book = book_by_text(text)
    if book is None or text_of_book(book) != text:
        raise InvalidText(text)
    return book


def text_of_history(history):
    """The text of a history."""
    return "\n".join([event_text(event) for event in history])


def history_text(history):
    """Returns the text of a history."""
    if not are_events(history):
        raise InvalidHistory(history)
    return text_of_history(history)


def read_history(text):
    """Returns the history that has a text."""
    need_text(text)
    history = [read_event(line) for line in text.split("\n")] if text != "" else []
    if not are_events(history) or text_of_history(history) != text:
        raise InvalidText(text)
    return history
