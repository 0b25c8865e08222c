"""Pieces of papers: keys, things, writes, versions, questions, answers and events as texts, both ways."""

from weavestore.contents import part_text, read_part
from weavestore.figures import figures_of
from weavestore.keys import ascending

NO_PARTS = "()"
NOTHING = "-"


def piece_of(parts):
    """The piece of a key or of a thing, or of None."""
    if parts is None:
        return NOTHING
    return ",".join([part_text(part) for part in parts]) if parts else NO_PARTS


def read_piece(text):
    """The key, the thing or None of which this might be the piece."""
    if text == NOTHING:
        return None
    if text == NO_PARTS:
        return ()
    return tuple([read_part(part) for part in text.split(",")])


def pair_piece(key, thing):
    """The piece of a key and of a thing with a colon between."""
    return piece_of(key) + ":" + piece_of(thing)


def read_pair(text):
    """The tuple of a key and a thing of which this might be the piece."""
    key, _, thing = text.partition(":")
    return (read_piece(key), read_piece(thing))


def text_of_writes(writes):
    """The text of writes."""
    return "\n".join([piece_of(key) + " " + piece_of(writes[key]) for key in ascending(writes)])


def writes_by_text(text):
    """The writes of which this might be the text."""
    writes = {}
    for line in text.split("\n") if text != "" else []:
        key, _, thing = line.partition(" ")
        writes[read_piece(key)] = read_piece(thing)
    return writes


def text_of_picture(picture):
    """The text of a list of contents and None."""
    lines = ["cells " + figures_of(len(picture))]
    for cell, content in enumerate(picture):
        if content is not None:
            lines.append(" ".join([figures_of(number) for number in (cell, *content)]))
    return "\n".join(lines)


def rows_line(key, versions):
    """The line of a key and its versions."""
    pieces = [figures_of(commit) + ":" + piece_of(thing) for commit, thing in versions]
    return " ".join([piece_of(key)] + pieces)


def text_of_book(book):
    """The text of a book."""
    lines = ["newest " + figures_of(book.newest())]
    return "\n".join(lines + [rows_line(key, versions) for key, versions in book.rows().items()])


def read_rows_line(line):
    """The tuple of the key and its versions of which this might be the line."""
    pieces = line.split(" ")
    versions = []
    for piece in pieces[1:]:
        commit, _, thing = piece.partition(":")
        versions.append((read_part(commit), read_piece(thing)))
    return (read_piece(pieces[0]), versions)


def answer_piece(value):
    """The text of an answer."""
    if value is None:
        return "none"
    if isinstance(value, bool):
        return "yes" if value else "no"
    if isinstance(value, int):
        return "many " + figures_of(value)
    if isinstance(value, list):
        return " ".join(["list"] + [pair_piece(key, thing) for key, thing in value])
    if value != () and isinstance(value[0], tuple):
        return "pair " + pair_piece(value[0], value[1])
    return "thing " + piece_of(value)


def read_answer(text):
    """The answer of which this might be the text; the text itself where it begins with no word of one."""
    word, _, rest = text.partition(" ")
    bare = {"none": None, "yes": True, "no": False}
    if text in bare:
        return bare[text]
    if word == "many":
        return read_part(rest)
    if word == "thing":
        return read_piece(rest)
    if word == "pair":
        return read_pair(rest)
    if word == "list":
        return [read_pair(piece) for piece in text.split(" ")[1:]]
    return text


def outcome_text(outcome):
    """The text of an outcome."""
    text = outcome[0] + " " + figures_of(outcome[1])
    return " = ".join([text] + [answer_piece(value) for value in outcome[2:]])


def read_outcome(text):
    """The outcome of which this might be the text."""
    pieces = text.split(" = ")
    word, _, number = pieces[0].partition(" ")
    return (word, read_part(number), *[read_answer(piece) for piece in pieces[1:]])


def event_text(event):
    """The line of an event."""
    word = event[0]
    if word == "ask":
        keys = [piece_of(key) for key in event[2][1:]]
        return " ".join(["ask", event[1], event[2][0], *keys, "=", answer_piece(event[3])])
    if word == "put":
        return " ".join(["put", event[1], piece_of(event[2]), piece_of(event[3])])
    if word == "drop":
        return "drop " + event[1] + " " + piece_of(event[2])
    if word == "end":
        return "end " + event[1] + " " + outcome_text(event[2])
    if word == "fall":
        return "fall " + figures_of(event[1])
    return " ".join(event)


def read_ask(name, text):
    """The event of a look of which this might be the end of the line."""
    asked, _, told = text.partition(" = ")
    pieces = asked.split(" ")
    question = (pieces[0], *[read_piece(piece) for piece in pieces[1:]])
    return ("ask", name, question, read_answer(told))


def read_event(line):
    """The event of which this might be the line."""
    if line == "stand":
        return ("stand",)
    word, _, rest = line.partition(" ")
    if word == "fall":
        return (word, read_part(rest))
    name, _, more = rest.partition(" ")
    if word == "give":
        return ("give up", more)
    if word == "ask":
        return read_ask(name, more)
    if word == "put":
        key, _, thing = more.partition(" ")
        return (word, name, read_piece(key), read_piece(thing))
    if word == "drop":
        return (word, name, read_piece(more))
    if word == "end":
        return (word, name, read_outcome(more))
    return (word, name, more)
