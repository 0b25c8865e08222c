"""Wishes and deeds of tables as texts: how they are written."""

from weavestore.figures import figures_of
from weavestore.keys import is_worth
from weavestore.kinds import is_tuple_of, is_word
from weavestore.schemas import MANNERS, MOST_COLUMNS, are_columns
from weavestore.wishes import inside_out, is_test_or_none, taken_off

LENGTHS = {"make": 3, "unmake": 2, "index": 5, "unindex": 2, "put": 3, "exchange": 3, "set": 5, "erase": 3}


def worth_text(worth):
    """The text of a worth: a word in single quotes, a count in figures."""
    if isinstance(worth, str):
        return "'" + worth + "'"
    return figures_of(worth)


def in_brackets(part, text, words):
    """The text of a part of a test, in round brackets if the part begins with one of some words."""
    if part[0] in words:
        return "(" + text + ")"
    return text


def test_text(test):
    """The text of a test."""
    stack = []
    for part in inside_out(test):
        told = taken_off(stack, part)
        if part[0] == "is":
            stack.append(part[1] + " " + part[2] + " " + worth_text(part[3]))
        elif part[0] == "not":
            stack.append("not " + in_brackets(part[1], told[0], ("and", "or")))
        else:
            # Only an "or" in an "and" needs its brackets: an "and" holds together more closely.
            texts = [in_brackets(each, text, ("or",)) for each, text in zip(part[1:], told)]
            stack.append((" " + part[0] + " ").join(texts))
    return stack[0]


def where_text(test):
    """The text of a test as it stands behind a table, or of None."""
    if test is None:
        return ""
    return " where " + test_text(test)


def find_text(wish):
    """The text of a find."""
    word, names, table, test, order, most = wish
    text = "find " + ", ".join(names) + " from " + table + where_text(test)
    if order is not None:
        text = text + " sorted " + order[0]
        if order[1] == "down":
            text = text + " down"
    if most is not None:
        text = text + " first " + figures_of(most)
    return text


def text_of_wish(wish):
    """The text of a wish."""
    if wish[0] == "find":
        return find_text(wish)
    if wish[0] == "count":
        return "count " + wish[1] + where_text(wish[2])
    return wish[0] + " " + wish[1] + " from " + wish[2] + where_text(wish[3])


def is_row_of_worths(value):
    """Whether any object is a tuple of one to three worths."""
    if not isinstance(value, tuple) or not 1 <= len(value) <= MOST_COLUMNS:
        return False
    return all([is_worth(part) for part in value])


def is_table_deed(value):
    """Whether any object is a deed of tables."""
    if not isinstance(value, tuple) or not value or not isinstance(value[0], str) or value[0] not in LENGTHS:
        return False
    word = value[0]
    if not is_tuple_of(value, LENGTHS[word]) or not is_word(value[1]):
        return False
    if word == "make":
        return are_columns(value[2])
    if word in ("put", "exchange"):
        return is_row_of_worths(value[2])
    if word == "index":
        return is_word(value[2]) and is_word(value[3]) and value[4] in MANNERS
    if word == "set":
        return is_word(value[2]) and is_worth(value[3]) and is_test_or_none(value[4])
    return word != "erase" or is_test_or_none(value[2])


def row_text(row):
    """The text of a row."""
    return "(" + ", ".join([worth_text(worth) for worth in row]) + ")"


def columns_text(columns):
    """The text of the columns of a table."""
    return "(" + ", ".join([column + " " + kind for column, kind in columns]) + ")"


def text_of_table_deed(deed):
    """The text of a deed of tables."""
    word = deed[0]
    if word == "make":
        return "make table " + deed[1] + " " + columns_text(deed[2])
    if word == "unmake":
        return "unmake table " + deed[1]
    if word == "index":
        return "make index " + deed[1] + " on " + deed[2] + " " + deed[3] + " " + deed[4]
    if word == "unindex":
        return "unmake index " + deed[1]
    if word == "put":
        return "put into " + deed[1] + " " + row_text(deed[2])
    if word == "exchange":
        return "exchange in " + deed[1] + " " + row_text(deed[2])
    if word == "set":
        return "set " + deed[2] + " to " + worth_text(deed[3]) + " in " + deed[1] + where_text(deed[4])
    return "erase from " + deed[1] + where_text(deed[2])
