"""The log's ring of places: lines as cells, the chain that a fall leaves, numbers that never come again."""

from weavestore.deeds import is_deed
from weavestore.errors import Full, InvalidCell, InvalidChain, InvalidDeed, InvalidLine, InvalidSpot, InvalidText
from weavestore.kinds import is_count_below, is_row_of_cells
from weavestore.loglines import LINE_CELLS, cells_of, is_line, mended_line, told_line, whole_line
from weavestore.needs import need_count, need_count_from_one
from weavestore.texts import deed_of_text, fits_line, text_of_deed


def deed_text(deed):
    """Returns the text of a deed."""
    if not is_deed(deed) or not fits_line(deed):
        raise InvalidDeed(deed)
    return text_of_deed(deed)


def deed_by(number, text):
    """Returns the deed of a number and a text."""
    need_count_from_one(number)
    if not isinstance(text, str):
        raise InvalidText(text)
    deed = deed_of_text(number, text)
    if deed is None:
        raise InvalidText(text)
    return deed


def line_cells(line):
    """Returns the twenty contents of a line."""
    if not is_line(line):
        raise InvalidLine(line)
    return cells_of(line)


def are_line_cells(value):
    """Whether any object is a list of twenty cells."""
    return is_row_of_cells(value) and len(value) == LINE_CELLS


def line_at(cells):
    """Returns what twenty cells tell: a whole line, one that is mended at a place, or none."""
    if not are_line_cells(cells):
        raise InvalidCell(cells)
    line = whole_line(cells)
    if line is not None:
        return ("whole", line)
    mended = mended_line(cells)
    if mended is not None:
        return ("mended", *mended)
    return ("none",)


def need_places(places):
    """Raises InvalidChain unless they are a ring of places."""
    if not isinstance(places, list) or not places or not all([are_line_cells(cells) for cells in places]):
        raise InvalidChain(places)


def need_ring(places, start, ahead):
    """Raises what is told for a ring of places, a place of it, and a count."""
    need_places(places)
    if not is_count_below(start, len(places)):
        raise InvalidSpot(start)
    need_count(ahead)


def chain_from(places, start, ahead):
    """The lines from a place on, the first one naming a number, each other one the one before it."""
    found = []
    for step in range(len(places)):
        line = told_line(places[(start + step) % len(places)])
        if line is None or line[1] != ahead:
            break
        found.append(line)
        ahead = line[0]
    return found


def chain(places, start, ahead):
    """Returns the list of the lines from a place on, each naming the one before it."""
    need_ring(places, start, ahead)
    return chain_from(places, start, ahead)


def need_chain(chain):
    """Raises InvalidChain unless it is a list of lines, each naming the one before it."""
    if not isinstance(chain, list) or not all([is_line(line) for line in chain]):
        raise InvalidChain(chain)
    if not all([late[1] == line[0] for line, late in zip(chain, chain[1:])]):
        raise InvalidChain(chain)


def up_to_commit(chain):
    """The list of the lines up to the last one that is the last of its commit."""
    many = max([at + 1 for at, line in enumerate(chain) if line[2]], default=0)
    return chain[:many]


def fresh_line(line):
    """A line like one, with a list of its own."""
    number, page, reads, words = line[3]
    return (*line[:3], (number, page, list(reads), words))


def committed(chain):
    """Returns the list of the lines up to the last one that is the last of its commit."""
    need_chain(chain)
    return [fresh_line(line) for line in up_to_commit(chain)]


def next_number(places, least):
    """Returns the least count, at least so great, that is greater than all numbers told in places."""
    need_places(places)
    need_count(least)
    stamps = [cell[0] for cells in places for cell in cells if cell is not None]
    return max(least, max(stamps, default=-1) + 1)


def next_place(places, start, ahead):
    """Returns the place where the next commit's first line is to be written, and the number that it names."""
    need_ring(places, start, ahead)
    lines = up_to_commit(chain_from(places, start, ahead))
    if len(lines) == len(places):
        raise Full(start)
    if lines:
        ahead = lines[-1][0]
    return ((start + len(lines)) % len(places), ahead)


def ghosts(places, start, ahead):
    """Returns the ascending list of the places, but those of the chain, that tell a line."""
    need_ring(places, start, ahead)
    many = len(chain_from(places, start, ahead))
    behind = [at for at in range(len(places)) if (at - start) % len(places) >= many]
    return [at for at in behind if told_line(places[at]) is not None]
