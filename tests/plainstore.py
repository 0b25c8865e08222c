"""The tests' own store: each deed told word by word as the document does, beside the real one."""

from tests import plainshelves
from tests.plainbooks import is_word
from tests.support import all_rings, errors, is_count, plain_waits
from weavestore import disc as discs
from weavestore.chain import chain, committed, line_cells, next_number
from weavestore.clearing import cleared, may_go
from weavestore.opening import told_pages
from weavestore.pages import page_writes, shown
from weavestore.shelves import page_by
from weavestore.transactions import Weave
from weavestore.versions import Book


class Plain:
    """A store of the test's own; its methods raise the errors that the document tells."""

    def __init__(self, pages, places):
        self.pages, self.places = pages, places
        self.disc = discs.Disc(61 * pages + 20 * places)
        for page, content in enumerate([(1, 0, 0, {}), [(None, 2)]] + [{}] * (pages - 2)):
            for cell, sign in page_writes(page, "0 " + plainshelves.text_of(page, content)):
                self.disc.write(cell, sign)
        self.disc.barrier()
        self.down, self.fallen, self.left, self.record = False, False, None, []
        self.start()

    def start(self):
        """What a wake does: reads the disc, and tells which pages can't be told."""
        picture = self.disc.standing()
        texts, told = [], []
        for page in range(self.pages):
            try:
                texts.append(shown(picture, page))
                told.append(page_by(page, texts[-1]))
            except errors.StoreError:
                texts = texts[:page] + [None]
                told.append(None)
        lost = [page for page in range(self.pages) if told[page] is None]
        if 0 in lost:
            return lost
        first = 61 * self.pages
        ring = [picture[first + 20 * at: first + 20 * at + 20] for at in range(self.places)]
        line, place, newest, pins = told[0][0]
        lines = committed(chain(ring, place, line - 1))
        stamps = {page: 0 if told[page] is None else told[page][1] for page in range(self.pages)}
        last = lines[-1][0] if lines else line - 1
        fine = told_pages(stamps, lines, lost, last)
        if len(fine) < self.pages:
            return [page for page in stamps if page not in fine]
        self.shelf = [content for content, stamp in told]
        self.stamps = dict(stamps)
        for number, ahead, end, deed in lines:
            if stamps[deed[1]] < number:
                self.shelf[deed[1]] = plainshelves.content_behind(self.shelf, deed)
                self.stamps[deed[1]] = number
            if deed[3][0] == "put":
                newest = max(newest, deed[3][2])
        self.weave = Weave(Book(plainshelves.counting(self.shelf), newest), newest)
        self.lines = [(each, (place + at) % self.places) for at, each in enumerate(lines)]
        self.next_place, self.ahead_number, self.number = (place + len(lines)) % self.places, last, next_number(ring, last + 1)
        self.lines_standing, self.root_line = last, line
        self.stood, self.first_stamps = dict(stamps), dict(stamps)
        self.texts, self.shown, self.written = list(texts), list(texts), dict(stamps)
        self.mixed = [page for page in stamps if picture[61 * page: 61 * page + 61] != [sign for cell, sign in page_writes(page, texts[page])]]
        self.unbarred, self.touched = [], []
        self.run, self.marks = [], []
        self.down = self.fallen = False
        return []

    def step(self, word):
        if self.left == 0:
            self.down, self.left = True, None
            raise errors.Fallen(word)
        if self.left is not None:
            self.left -= 1

    def write(self, word, cell, content):
        self.step(word)
        self.disc.write(cell, content)
        self.run.append(("write", cell))

    def free(self):
        return self.places - len(self.lines)

    def log(self, word, commits, is_book):
        for deeds in commits:
            numbers = [deed[0] for deed in deeds]
            for deed in deeds:
                line = (deed[0], self.ahead_number, deed is deeds[-1], deed)
                first = len(self.run)
                for at, content in enumerate(line_cells(line)):
                    self.write(word, 61 * self.pages + 20 * self.next_place + at, content)
                self.marks.append(("line", deed[0], numbers[-1], self.next_place, first, is_book and self.weave.newest() + 1))
                self.lines.append((line, self.next_place))
                self.next_place, self.ahead_number, self.number = (self.next_place + 1) % self.places, deed[0], deed[0] + 1
            for deed in deeds:
                self.shelf[deed[1]] = plainshelves.content_behind(self.shelf, deed)
                self.stamps[deed[1]] = deed[0]

    def deeds(self):
        return [line[3] for line, place in self.lines]

    def standing_stamps(self, deeds):
        pages = sorted({page for deed in deeds for page in deed[2]})
        return {page: self.stood[page] if self.stood[page] >= min(deed[0] for deed in deeds) else 0 for page in pages}

    def waiting(self, deeds):
        return plain_waits(deeds, self.standing_stamps(deeds)) if deeds else []

    def closing(self, deeds):
        """The deeds ahead of the first one with which there is a ring, and it."""
        held = self.deeds()
        for deed in deeds:
            late = held + [deed]
            if all_rings(range(self.pages), self.waiting(late)):
                return held, deed
            held = late
        return None

    def groups(self, held, deed):
        """What has to be written back ahead of a deed: its page and all to which waits lead, layer by layer."""
        waits = self.waiting(held)
        pages = {deed[1]}
        while not all(p in pages for q, p, number in waits if q in pages):
            pages |= {p for q, p, number in waits if q in pages}
        found = []
        while pages:
            free = sorted(page for page in pages if not any(q == page and p in pages for q, p, number in waits))
            found.append(free)
            pages -= set(free)
        return found

    def commit_deeds(self, name):
        return plainshelves.commit_deeds(self.shelf, self.weave.newest() + 1, self.weave.writes_of(name), self.number)

    def end(self, name):
        if self.weave.would_end(name)[0] != "committed":
            self.record.append(("end", name))
            return self.weave.end(name)
        deeds = self.commit_deeds(name)
        if deeds is None or not self.free() > len(deeds):
            raise errors.Full(name)
        if self.closing(deeds):
            raise errors.Refused(name)
        self.record.append(("end", name))
        self.log("end", [deeds], True)
        return self.weave.end(name)

    def ahead(self, name):
        if self.weave.would_end(name)[0] != "committed" or self.commit_deeds(name) is None:
            return []
        closing = self.closing(self.commit_deeds(name))
        return self.groups(*closing) if closing else []

    def sync(self):
        self.record.append(("sync",))
        self.step("sync")
        self.disc.barrier()
        self.run += [("barrier",), ("tell",)]
        self.marks.append(("sync", len(self.run) - 1, self.weave.newest() if self.weave.newest() > self.weave.standing() else None))
        self.weave.stand(self.weave.newest())
        self.lines_standing = self.ahead_number
        self.stood = dict(self.written)
        self.mixed = [page for page in self.mixed if page not in self.touched]
        root = page_by(0, self.texts[0])[0][0]
        if root > self.root_line:
            for line, place in self.lines:
                if line[0] < root:
                    self.marks.append(("free", place))
            self.lines, self.root_line = [pair for pair in self.lines if pair[0][0] >= root], root
        self.unbarred = []
        return self.weave.standing()

    def text(self, page):
        return f"{self.stamps[page]} " + plainshelves.text_of(page, self.shelf[page])

    def need_page(self, page):
        if not is_count(page) or page >= self.pages:
            raise errors.InvalidPage(page)

    def why_not_write(self, page):
        self.need_page(page)
        if self.text(page) == self.texts[page]:
            return [("newest",)]
        found = [("line", self.stamps[page])] if self.stamps[page] > self.lines_standing else []
        stands = self.disc.standing()[61 * page: 61 * page + 61]
        both = zip(page_writes(page, self.shown[page]), page_writes(page, self.text(page)))
        if page in self.mixed and any(content not in (one[1], other[1]) for content, (one, other) in zip(stands, both)):
            found.append(("mixed",))
        if page in self.unbarred:
            found.append(("unbarred",))
        return found + [("wait", p, number) for q, p, number in self.waiting(self.deeds()) if q == page]

    def write_back(self, page):
        if self.why_not_write(page):
            raise errors.Refused(page)
        self.record.append(("write_back", page))
        first = len(self.run)
        for cell, sign in page_writes(page, self.text(page)):
            self.write("write_back", cell, sign)
        self.marks.append(("back", page, first, len(self.run) - 1, self.written[page], self.stamps[page], self.deeds()))
        self.texts[page], self.written[page] = self.text(page), self.stamps[page]
        self.unbarred.append(page)
        self.unbarred.sort()
        self.touched.append(page)

    def mend(self, page):
        self.need_page(page)
        if page not in self.mixed or page in self.touched:
            raise errors.Refused(page)
        self.record.append(("mend", page))
        first = len(self.run)
        for cell, sign in page_writes(page, self.shown[page]):
            if self.disc.standing()[cell] != sign:
                self.write("mend", cell, sign)
        self.marks.append(("mend", page, first, len(self.run) - 1))
        self.unbarred.append(page)
        self.unbarred.sort()
        self.touched.append(page)

    def waits(self):
        """The waits by what was marked."""
        found, ends, lasts, backs, last_page, freed, commits = set(), {}, {}, [], {}, {}, {}
        for mark in self.marks:
            if mark[0] == "line":
                word, number, last, place, first, commit = mark
                ends[number] = first + 19
                lasts[number] = last
                if commit:
                    commits[commit] = number
                if place in freed:
                    found.add((freed.pop(place), first))
            elif mark[0] == "sync":
                if mark[2] is not None and mark[2] in commits:
                    found.add((ends[commits[mark[2]]], mark[1]))
            elif mark[0] == "free":
                freed[mark[1]] = last_page[0]
            else:
                page, first, last = mark[1:4]
                if mark[0] == "back":
                    elder, newer, deeds = mark[4:]
                    for number in {newer, lasts.get(newer)}:
                        if number in ends:
                            found.add((ends[number], first))
                    for number, p, reads, words in deeds:
                        if page in reads and p != page and elder < number <= newer and self.first_stamps[p] < number:
                            late = [end for written, end, stamp in backs if written == p and stamp >= number]
                            found.add((late[0], first))
                    if page in last_page:
                        cell = self.run[last_page[page]][1]
                        found.add((last_page[page], [at for at in range(first, last + 1) if self.run[at][1] != cell][0]))
                    backs.append((page, last, newer))
                last_page[page] = last
        return sorted(found)

    def root(self):
        number, place = self.root_line - 1, None
        for line, at in self.lines:
            if self.stood[line[3][1]] < line[0]:
                break
            number, place = line[0], (at + 1) % self.places
        if number + 1 <= self.shelf[0][0]:
            raise errors.Refused("root")
        self.one("root", "root", ("begin", number + 1, place, self.weave.newest()), 0)
        return number

    def one(self, word, value, words, least, *things):
        """Tells the log a deed of the root."""
        deed = (self.number, 0, [0], words)
        if len(plainshelves.text_of(0, plainshelves.content_behind(self.shelf, deed))) > 108 or not self.free() > least:
            raise errors.Full(value)
        self.record.append((word, *things))
        self.log(word, [[deed]], False)

    def clear(self):
        newest = self.weave.newest()
        held = sorted({*self.weave.held(), *self.shelf[0][3].values(), self.weave.standing()})
        pages = sorted(used for low, used in self.shelf[1])
        pages = [page for page in pages if any(plainshelves.may_go(versions, held, newest) for versions in self.shelf[page].values())]
        deeds = [(self.number + at, page, [page], ("clear", tuple(held), newest)) for at, page in enumerate(pages)]
        if deeds and not self.free() > len(deeds):
            raise errors.Full("clear")
        self.record.append(("clear",))
        self.log("clear", [[deed] for deed in deeds], False)
        gone = may_go(self.weave.book(), held, newest)
        self.weave.exchange(cleared(self.weave.book(), held, newest))
        return gone

    def join(self):
        deeds = plainshelves.join_deeds(self.shelf, self.number)
        if not deeds:
            raise errors.Refused("join")
        if not self.free() > len(deeds):
            raise errors.Full("join")
        if self.closing(deeds):
            raise errors.Refused("join")
        self.record.append(("join",))
        self.log("join", [deeds], False)

    def pin(self, name, commit):
        if not is_word(name):
            raise errors.InvalidName(name)
        if not is_count(commit) or commit not in [self.weave.standing(), *self.weave.held(), *self.shelf[0][3].values()]:
            raise errors.InvalidCommit(commit)
        self.one("pin", name, ("pin", name, commit), 1, name, commit)

    def unpin(self, name):
        if not is_word(name):
            raise errors.InvalidName(name)
        if name not in self.shelf[0][3]:
            raise errors.Refused(name)
        self.one("unpin", name, ("unpin", name), 1, name)

    def pins(self):
        return {name: self.shelf[0][3][name] for name in sorted(self.shelf[0][3])}

    def cut(self, many):
        if not is_count(many):
            raise errors.InvalidCount(many)
        self.record.append(("cut", many))
        self.left = many

    def fall(self, picture):
        if not discs.is_picture(self.disc, picture):
            raise errors.InvalidChoice(picture)
        self.record.append(("fall", list(picture)))
        self.disc, self.down, self.fallen, self.left = discs.disc_of(picture), True, True, None

    def harm(self, harms):
        if not self.fallen:
            raise errors.Refused(harms)
        late = discs.with_cells(self.disc.standing(), harms)
        self.record.append(("harm", dict(harms)))
        self.disc = discs.disc_of(late)

    def wake(self):
        if not self.fallen:
            raise errors.Refused("wake")
        bad = self.start()
        if bad:
            raise errors.Refused(bad)
        self.record.append(("wake",))
        return self.weave.newest()

    def call(self, name, *things):
        """A deed by its name; those of the weave are its own."""
        if name in ("fall", "harm", "wake"):
            return getattr(self, name)(*things)
        if self.down:
            raise errors.Fallen(name)
        if name in ("begin", "ask", "put", "drop", "deed", "give_up"):
            told = getattr(self.weave, name)(*things)
            self.record.append((name, *things))
            return told
        return getattr(self, name)(*things)
