"""The machine of a store: its disc and its power, what runs on them, and the steps that it makes."""

from weavestore.backs import closes_ring, why_not_write
from weavestore.contents import ROOT_PAGE
from weavestore.disc import Disc
from weavestore.errors import Fallen, Full, Refused
from weavestore.logbook import Logbook
from weavestore.loglines import cells_of
from weavestore.meanings import shelf_behind
from weavestore.pages import PAGE_CELLS, page_cells, page_writes, writes_over
from weavestore.room import PLACE_CELLS, disc_cells
from weavestore.shelves import bare_shelf, deeds_of_commit, fresh_shelf, page_text, root_deed, rows_in, stamped
from weavestore.tally import Tally
from weavestore.transactions import Weave
from weavestore.versions import Book
from weavestore.waking import Findings


def new_drive(pages, places):
    """A disc on which the texts of a new shelf stand, with so many places behind them."""
    drive = Disc(disc_cells(pages, places))
    for page, content in enumerate(bare_shelf(pages)):
        for cell, sign in page_writes(page, page_text(page, content, 0)):
            drive.write(cell, sign)
    drive.barrier()
    return drive


def fresh_table(table):
    """A dictionary like one."""
    return {key: table[key] for key in table}


class Machine:
    """A disc with so many pages, whether the power is there, and what runs as long as it is."""

    def __init__(self, drive, pages):
        self.drive = drive
        self.pages = pages
        self.down = False
        self.fallen = False
        self.steps_left = None
        self.deeds_made = []
        self.contents = []
        self.newest_stamps = {}
        self.weave = None
        self.logbook = None
        self.next_number = 0
        self.last_standing = 0
        self.stood = {}
        self.written_stamps = {}
        self.written_texts = []
        self.shown_texts = []
        self.mixed = []
        self.unbarred = []
        self.touched = []
        self.tally = None

    def start(self):
        """Reads the disc, and runs; raises Refused with the pages that can't be told."""
        findings = Findings(self.drive.standing(), self.pages)
        untold = findings.untold()
        if untold:
            raise Refused(list(untold))
        self.contents = shelf_behind(findings.contents, findings.redone())
        self.newest_stamps = fresh_table(findings.stamps)
        for deed in findings.redone():
            self.newest_stamps[deed[1]] = deed[0]
        commit = findings.newest_commit()
        self.weave = Weave(Book(rows_in(self.contents), commit), commit)
        self.logbook = Logbook(len(findings.ring), findings.root()[0], findings.root()[1], findings.lines)
        self.next_number = findings.number_behind()
        self.last_standing = findings.last_number()
        self.stood = fresh_table(findings.stamps)
        self.written_stamps = fresh_table(findings.stamps)
        self.written_texts = list(findings.texts)
        self.shown_texts = list(findings.texts)
        self.mixed = list(findings.mixed)
        self.unbarred = []
        self.touched = []
        self.tally = Tally(fresh_table(findings.stamps))
        self.down = False
        self.fallen = False

    def twin(self):
        """A machine like this one that goes its own way."""
        other = Machine(self.drive.copy(), self.pages)
        other.down = self.down
        other.fallen = self.fallen
        other.steps_left = self.steps_left
        other.deeds_made = list(self.deeds_made)
        other.contents = fresh_shelf(self.contents)
        other.newest_stamps = fresh_table(self.newest_stamps)
        other.weave = self.weave.copy()
        other.logbook = self.logbook.twin()
        other.next_number = self.next_number
        other.last_standing = self.last_standing
        other.stood = fresh_table(self.stood)
        other.written_stamps = fresh_table(self.written_stamps)
        other.written_texts = list(self.written_texts)
        other.shown_texts = list(self.shown_texts)
        other.mixed = list(self.mixed)
        other.unbarred = list(self.unbarred)
        other.touched = list(self.touched)
        other.tally = self.tally.twin()
        return other

    def note(self, name, *things):
        """Adds a deed to those that are made."""
        self.deeds_made.append((name, *things))

    def lose(self):
        """Loses the power."""
        self.down = True
        self.steps_left = None

    def step(self, word):
        """Takes the power of one step; raises Fallen with a word if it is lost ahead of it."""
        if self.steps_left == 0:
            self.lose()
            raise Fallen(word)
        if self.steps_left is not None:
            self.steps_left = self.steps_left - 1

    def write(self, word, cell, content):
        """Writes one cell, a step of a deed."""
        self.step(word)
        self.drive.write(cell, content)
        self.tally.write(cell)

    def write_all(self, word, writes):
        """Writes some cells, one behind the other; returns the position of the first write in the run."""
        first = self.tally.many()
        for cell, content in writes:
            self.write(word, cell, content)
        return first

    def write_line(self, word, deed, is_last):
        """Writes a deed as a line in the next place."""
        line = (deed[0], self.logbook.number_ahead, is_last, deed)
        place = self.logbook.next_place()
        start = PAGE_CELLS * self.pages + PLACE_CELLS * place
        first = self.write_all(word, [(start + at, content) for at, content in enumerate(cells_of(line))])
        self.logbook.add_line(line)
        self.tally.line_written(deed[0], place, first)

    def tell_log(self, word, commits, lays_book):
        """Writes the deeds of some commits of the log as lines, and does them."""
        for deeds in commits:
            for at, deed in enumerate(deeds):
                self.write_line(word, deed, at == len(deeds) - 1)
                self.next_number = deed[0] + 1
                self.newest_stamps[deed[1]] = deed[0]
            self.contents = shelf_behind(self.contents, deeds)
            self.tally.commit_written([deed[0] for deed in deeds], lays_book)

    def has_room_for(self, deeds):
        """Whether there are more free places than deeds."""
        return self.logbook.free() > len(deeds)

    def stamps_of(self, deeds):
        """The stamps of the pages of deeds of the log that stand on the disc, 0 for those ahead of all deeds."""
        pages = sorted({page for deed in deeds for page in deed[2]})
        return {page: self.stood[page] if self.stood[page] >= deeds[0][0] else 0 for page in pages}

    def closing(self, deeds):
        """The tuple of all deeds ahead and of the first of some deeds that closes a ring, None if none does."""
        held = self.logbook.deeds_held()
        for deed in deeds:
            if held and closes_ring(held, self.stamps_of(held), deed):
                return (held, deed)
            held = [*held, deed]
        return None

    def deeds_ending(self, name):
        """The deeds that lay the writes of a transaction as the next commit, None if there is no room."""
        writes = self.weave.writes_of(name)
        return deeds_of_commit(self.contents, self.weave.newest() + 1, writes, self.next_number)

    def deed_on_root(self, words):
        """The next deed of some words on the root, None if what comes does not fit."""
        try:
            return root_deed(self.contents, self.next_number, words)
        except Full:
            return None

    def last_written(self):
        """The tuple of the number of the last line up to which all pages stand, and of the place behind it."""
        number, place = self.logbook.root_line - 1, self.logbook.first_place
        for at, line in enumerate(self.logbook.held_lines):
            if self.stood[line[3][1]] < line[0]:
                break
            number, place = line[0], self.logbook.place_at(at + 1)
        return (number, place)

    def newest_text(self, page):
        """The newest text of a page."""
        return page_text(page, self.contents[page], self.newest_stamps[page])

    def is_odd(self, page):
        """Whether some cell of a mixed page holds neither the shown content nor the newest one."""
        cells = page_cells(page)
        standing = self.drive.standing()[cells[0] : cells[-1] + 1]
        shown = page_writes(page, self.shown_texts[page])
        newest = page_writes(page, self.newest_text(page))
        return any([stands not in (one[1], other[1]) for stands, one, other in zip(standing, shown, newest)])

    def reasons(self, page):
        """The list of the reasons why the newest content of a page may not be written back now."""
        if self.newest_text(page) == self.written_texts[page]:
            return [("newest",)]
        deeds = self.logbook.deeds_held()
        mixed = [page] if page in self.mixed and self.is_odd(page) else []
        return why_not_write(deeds, self.stamps_of(deeds), page, self.last_standing, sorted(self.unbarred), mixed)

    def write_back(self, word, page):
        """Writes the newest content of a page."""
        text = self.newest_text(page)
        first = self.write_all(word, page_writes(page, text))
        stamp, elder = self.newest_stamps[page], self.written_stamps[page]
        self.tally.page_written(page, first, stamp, elder, self.logbook.deeds_held())
        self.written_texts[page] = text
        self.written_stamps[page] = stamp
        self.touch(page)

    def may_mend(self, page):
        """Whether a page is mixed, and neither mended nor written back since."""
        return page in self.mixed and page not in self.touched

    def mend(self, word, page):
        """Writes the text that was shown in a page over the cells that are not its."""
        cells = page_cells(page)
        standing = self.drive.standing()[cells[0] : cells[-1] + 1]
        self.write_all(word, writes_over(standing, page, self.shown_texts[page]))
        self.tally.page_mended(page)
        self.touch(page)

    def touch(self, page):
        """Tells that a page was written since the last barrier."""
        self.unbarred.append(page)
        self.touched.append(page)

    def sync(self, word):
        """Makes a barrier, behind which all that was written stands; returns the standing commit."""
        self.step(word)
        self.drive.barrier()
        is_raised = self.weave.newest() > self.weave.standing()
        self.weave.stand(self.weave.newest())
        self.last_standing = self.logbook.number_ahead
        self.stood = fresh_table(self.written_stamps)
        self.mixed = [page for page in self.mixed if page not in self.touched]
        places = []
        if ROOT_PAGE in self.unbarred:
            places = self.logbook.give_up(stamped(ROOT_PAGE, self.written_texts[ROOT_PAGE])[0][0])
        self.unbarred = []
        self.tally.barrier(is_raised, places)
        return self.weave.standing()
