"""Wishes and deeds of tables as texts: how they are read back."""

from weavestore.errors import InvalidText
from weavestore.figures import are_figures, count_of
from weavestore.kinds import is_word
from weavestore.wishes import OF_COLUMN, SIGNS, is_wish
from weavestore.wording import is_table_deed, text_of_table_deed, text_of_wish

END = ""


def pieces_of(text):
    """The words, signs, worths, brackets and commas of a text."""
    spread = text
    for sign in "(),":
        spread = spread.replace(sign, " " + sign + " ")
    return [piece for piece in spread.split(" ") if piece != ""]


def is_quoted(piece):
    """Whether a piece of a text is a word in single quotes."""
    return piece[:1] == "'" and piece[-1:] == "'" and is_word(piece[1:-1])


def joined(word, parts):
    """The test that joins some tests, the only one itself."""
    if len(parts) == 1:
        return parts[0]
    return (word, *parts)


class Level:
    """What is read of a test inside one pair of brackets: rows of parts, and how many a "not" waits for a part."""

    def __init__(self):
        self.choices = [[]]
        self.nots = 0

    def take(self, test):
        """Takes one part, with each "not" ahead of it."""
        for _ in range(self.nots):
            test = ("not", test)
        self.nots = 0
        self.choices[-1].append(test)

    def whole(self):
        """The test of all parts."""
        return joined("or", [joined("and", row) for row in self.choices])


class Reader:
    """The pieces of a text, read one after the other; what can't be read raises InvalidText with the whole text."""

    def __init__(self, text):
        self.text = text
        self.pieces = pieces_of(text)
        self.at = 0

    def coming(self, behind):
        """The piece so many places behind the next one, the end where there is none."""
        if self.at + behind < len(self.pieces):
            return self.pieces[self.at + behind]
        return END

    def next_piece(self):
        """The next piece, read."""
        piece = self.coming(0)
        self.at += 1
        return piece

    def has(self, piece):
        """Whether a piece comes next; it is read if so."""
        if self.coming(0) != piece:
            return False
        self.at += 1
        return True

    def need(self, piece):
        """Reads a piece that has to come."""
        if not self.has(piece):
            raise InvalidText(self.text)

    def word(self):
        """Reads a word."""
        piece = self.next_piece()
        if not is_word(piece):
            raise InvalidText(self.text)
        return piece

    def number(self):
        """Reads a count."""
        piece = self.next_piece()
        if not are_figures(piece):
            raise InvalidText(self.text)
        return count_of(piece)

    def worth(self):
        """Reads a worth."""
        if is_quoted(self.coming(0)):
            return self.next_piece()[1:-1]
        return self.number()

    def leaf(self):
        """Reads an "is"."""
        column = self.word()
        sign = self.next_piece()
        if sign not in SIGNS:
            raise InvalidText(self.text)
        return ("is", column, sign, self.worth())

    def part(self, levels):
        """Reads what stands ahead of a part and, but where brackets begin, the part; returns whether it did."""
        # A "not" with a sign behind it is a column that is called so.
        while self.coming(0) == "not" and self.coming(1) not in SIGNS:
            self.at += 1
            levels[-1].nots += 1
        if self.has("("):
            levels.append(Level())
            return False
        levels[-1].take(self.leaf())
        return True

    def test(self):
        """Reads a test."""
        levels = [Level()]
        while True:
            if self.part(levels):
                while len(levels) > 1 and self.has(")"):
                    inner = levels.pop()
                    levels[-1].take(inner.whole())
                if self.has("or"):
                    levels[-1].choices.append([])
                elif not self.has("and"):
                    break
        if len(levels) > 1:
            raise InvalidText(self.text)
        return levels[0].whole()

    def where(self):
        """Reads a test behind its word, None where there is none."""
        if self.has("where"):
            return self.test()
        return None

    def columns_wished(self):
        """Reads the columns of a find."""
        found = [self.word()]
        while self.has(","):
            found.append(self.word())
        return found

    def order(self):
        """Reads an order, None where there is none."""
        if not self.has("sorted"):
            return None
        column = self.word()
        if self.has("down"):
            return (column, "down")
        return (column, "up")

    def most(self):
        """Reads how many rows are wished at most, None where it is not told."""
        if self.has("first"):
            return self.number()
        return None

    def finding(self):
        """Reads a find behind its word."""
        columns = self.columns_wished()
        self.need("from")
        table = self.word()
        test = self.where()
        order = self.order()
        return ("find", columns, table, test, order, self.most())

    def wish(self):
        """Reads a wish."""
        word = self.next_piece()
        if word == "find":
            return self.finding()
        if word == "count":
            table = self.word()
            return ("count", table, self.where())
        if word not in OF_COLUMN:
            raise InvalidText(self.text)
        column = self.word()
        self.need("from")
        table = self.word()
        return (word, column, table, self.where())

    def columns_made(self):
        """Reads the columns of a table that is made, in brackets."""
        self.need("(")
        found = [(self.word(), self.word())]
        while self.has(","):
            found.append((self.word(), self.word()))
        self.need(")")
        return found

    def row(self):
        """Reads a row, in brackets."""
        self.need("(")
        found = [self.worth()]
        while self.has(","):
            found.append(self.worth())
        self.need(")")
        return tuple(found)

    def made(self):
        """Reads a deed that makes a table or an index, behind its word."""
        if self.has("table"):
            table = self.word()
            return ("make", table, self.columns_made())
        self.need("index")
        index = self.word()
        self.need("on")
        return ("index", index, self.word(), self.word(), self.word())

    def unmade(self):
        """Reads a deed that unmakes a table or an index, behind its word."""
        if self.has("table"):
            return ("unmake", self.word())
        self.need("index")
        return ("unindex", self.word())

    def setting(self):
        """Reads a deed that sets worths, behind its word."""
        column = self.word()
        self.need("to")
        worth = self.worth()
        self.need("in")
        table = self.word()
        return ("set", table, column, worth, self.where())

    def table_deed(self):
        """Reads a deed of tables."""
        word = self.next_piece()
        if word == "make":
            return self.made()
        if word == "unmake":
            return self.unmade()
        if word == "set":
            return self.setting()
        if word == "put":
            self.need("into")
            return ("put", self.word(), self.row())
        if word == "exchange":
            self.need("in")
            return ("exchange", self.word(), self.row())
        if word != "erase":
            raise InvalidText(self.text)
        self.need("from")
        table = self.word()
        return ("erase", table, self.where())


def wish_of(text):
    """The one wish with a text; raises InvalidText with any other object."""
    if not isinstance(text, str):
        raise InvalidText(text)
    wish = Reader(text).wish()
    # What is read may have its blanks or brackets elsewhere, so it is held against what would be written.
    if not is_wish(wish) or text_of_wish(wish) != text:
        raise InvalidText(text)
    return wish


def table_deed_of(text):
    """The one deed of tables with a text; raises InvalidText with any other object."""
    if not isinstance(text, str):
        raise InvalidText(text)
    deed = Reader(text).table_deed()
    if not is_table_deed(deed) or text_of_table_deed(deed) != text:
        raise InvalidText(text)
    return deed
