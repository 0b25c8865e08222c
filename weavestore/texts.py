"""Deeds as texts: what their lines in the log hold."""

from weavestore.deeds import is_deed
from weavestore.figures import are_figures, count_of, figures_of

MOST_SIGNS = 144
NOTHING = "-"


def without_closing(part):
    """The parts of a tuple, blanks between, and its brackets, the last one first."""
    row = ["("]
    for at, each in enumerate(part):
        if at > 0:
            row.append(" ")
        row.append(each)
    row.append(")")
    return row[::-1]


def words_text(words):
    """The text of a tuple of words, however deep."""
    pieces = []
    ahead = [words]
    while ahead:
        part = ahead.pop()
        if isinstance(part, tuple):
            ahead.extend(without_closing(part))
        elif part is None:
            pieces.append(NOTHING)
        elif isinstance(part, str):
            pieces.append(part)
        else:
            pieces.append(figures_of(part))
    return "".join(pieces)


def text_of_deed(deed):
    """The text of a deed, whatever its length."""
    number, page, reads, words = deed
    return figures_of(page) + " " + ",".join([figures_of(read) for read in reads]) + " " + words_text(words)


def fits_line(deed):
    """Whether the text of a deed has room in a line."""
    return len(text_of_deed(deed)) <= MOST_SIGNS


def part_of(piece):
    """What a piece of a text stands for."""
    if piece == NOTHING:
        return None
    if are_figures(piece):
        return count_of(piece)
    return piece


def words_of(text):
    """The tuple of which this might be the text, None if its brackets are no brackets of one tuple."""
    rows = [[]]
    for piece in text.replace("(", " ( ").replace(")", " ) ").split(" "):
        if piece == "(":
            rows.append([])
        elif piece == ")":
            if len(rows) == 1:
                return None
            words = tuple(rows.pop())
            rows[-1].append(words)
        elif piece != "":
            rows[-1].append(part_of(piece))
    if len(rows) > 1 or len(rows[0]) != 1:
        return None
    return rows[0][0]


def deed_of_text(number, text):
    """The deed of a number that has a text with room in a line, None if there is none."""
    pieces = text.split(" ", 2)
    if len(text) > MOST_SIGNS or len(pieces) < 3:
        return None
    reads = pieces[1].split(",")
    if not are_figures(pieces[0]) or not all([are_figures(read) for read in reads]):
        return None
    deed = (number, count_of(pieces[0]), [count_of(read) for read in reads], words_of(pieces[2]))
    # What is read may have its blanks elsewhere, so it is held against what would be written.
    if not is_deed(deed) or text_of_deed(deed) != text:
        return None
    return deed
