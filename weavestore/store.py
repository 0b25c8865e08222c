"""The store: transactions over pages and a log on one disc, whatever is woven, wherever the power falls."""

from weavestore.again import is_record, make_again
from weavestore.asking import fresh
from weavestore.backs import ahead_of
from weavestore.chain import fresh_line
from weavestore.clearing import cleared_book, gone_rows, places_in
from weavestore.contents import ROOT_PAGE
from weavestore.disc import disc_of, fall, is_picture, with_cells
from weavestore.errors import Fallen, Full, InvalidChoice, InvalidCommit, InvalidCount, InvalidName, InvalidPage
from weavestore.errors import InvalidRecord, InvalidStore, Refused
from weavestore.kinds import is_count, is_count_below, is_word
from weavestore.machine import Machine, new_drive
from weavestore.needs import need_count
from weavestore.shelves import deeds_of_clearing, deeds_of_joining, fresh_shelf, pins_in
from weavestore.trials import Trial

LEAST_PAGES = 3
MOST_PAGES = 12
LEAST_PLACES = 4
MOST_PLACES = 40


class Store:
    """Pages and a ring of places for lines over one disc, and the transactions that read and write there."""

    def __init__(self, pages, places):
        if not is_count_below(pages, MOST_PAGES + 1) or pages < LEAST_PAGES:
            raise InvalidCount(pages)
        if not is_count_below(places, MOST_PLACES + 1) or places < LEAST_PLACES:
            raise InvalidCount(places)
        self.machine = Machine(new_drive(pages, places), pages)
        self.machine.start()

    def _up(self, word):
        """The machine; raises Fallen with a word while it is down."""
        if self.machine.down:
            raise Fallen(word)
        return self.machine

    def begin(self, name, kind):
        """Begins a transaction, and returns its snapshot."""
        machine = self._up("begin")
        snapshot = machine.weave.begin(name, kind)
        machine.note("begin", name, kind)
        return snapshot

    def ask(self, name, question):
        """Returns the answer of a question over the state that a transaction sees."""
        machine = self._up("ask")
        told = machine.weave.ask(name, question)
        machine.note("ask", name, question)
        return told

    def put(self, name, key, thing):
        """Adds an own write of a thing to a writer."""
        machine = self._up("put")
        machine.weave.put(name, key, thing)
        machine.note("put", name, key, thing)

    def drop(self, name, key):
        """Adds an own write that drops a key to a writer."""
        machine = self._up("drop")
        machine.weave.drop(name, key)
        machine.note("drop", name, key)

    def deed(self, name, text):
        """Does a deed of tables in a writer, and returns its answer."""
        machine = self._up("deed")
        told = machine.weave.deed(name, text)
        machine.note("deed", name, text)
        return told

    def give_up(self, name):
        """Ends a transaction without an outcome."""
        machine = self._up("give_up")
        machine.weave.give_up(name)
        machine.note("give_up", name)

    def would_end(self, name):
        """Returns the outcome with which a transaction would end now."""
        return self._up("would_end").weave.would_end(name)

    def looks_of(self, name):
        """Returns the list of the tuples of a question and its answer."""
        return self._up("looks_of").weave.looks_of(name)

    def writes_of(self, name):
        """Returns the own writes of a transaction."""
        return self._up("writes_of").weave.writes_of(name)

    def turned_looks(self, name):
        """Returns the ascending list of the places of all looks that tell otherwise now."""
        return self._up("turned_looks").weave.turned_looks(name)

    def under_way(self):
        """Returns the ascending list of the names of the transactions under way."""
        return self._up("under_way").weave.under_way()

    def held(self):
        """Returns the ascending list of the snapshots of the transactions under way."""
        return self._up("held").weave.held()

    def book(self):
        """Returns the book."""
        return self._up("book").weave.book()

    def newest(self):
        """Returns the newest commit."""
        return self._up("newest").weave.newest()

    def standing(self):
        """Returns the standing commit."""
        return self._up("standing").weave.standing()

    def is_told(self, outcome):
        """Returns whether an outcome may be told outside now."""
        return self._up("is_told").weave.is_told(outcome)

    def end(self, name):
        """Ends a transaction, tells it to the log if it commits, and returns its outcome."""
        machine = self._up("end")
        if machine.weave.would_end(name)[0] != "committed":
            machine.note("end", name)
            return machine.weave.end(name)
        deeds = machine.deeds_ending(name)
        if deeds is None or not machine.has_room_for(deeds):
            raise Full(name)
        if machine.closing(deeds) is not None:
            raise Refused(name)
        machine.note("end", name)
        machine.tell_log("end", [deeds], True)
        return machine.weave.end(name)

    def ahead(self, name):
        """Returns the groups of pages to be written back ahead of the first deed of an end that closes a ring."""
        machine = self._up("ahead")
        if machine.weave.would_end(name)[0] != "committed":
            return []
        closing = machine.closing(machine.deeds_ending(name) or [])
        if closing is None:
            return []
        return ahead_of(closing[0], machine.stamps_of(closing[0]), closing[1])

    def free_places(self):
        """Returns how many places are free."""
        return self._up("free_places").logbook.free()

    def sync(self):
        """Makes a barrier, behind which the newest commit stands, and returns it."""
        machine = self._up("sync")
        machine.note("sync")
        return machine.sync("sync")

    def why_not_write(self, page):
        """Returns the list of the reasons why a page may not be written back now."""
        machine = self._up("why_not_write")
        need_page_of(machine, page)
        return machine.reasons(page)

    def write_back(self, page):
        """Writes the newest content of a page back."""
        machine = self._up("write_back")
        need_page_of(machine, page)
        if machine.reasons(page) != []:
            raise Refused(page)
        machine.note("write_back", page)
        machine.write_back("write_back", page)

    def mend(self, page):
        """Writes the text that was shown in a mixed page over the cells that are not its."""
        machine = self._up("mend")
        need_page_of(machine, page)
        if not machine.may_mend(page):
            raise Refused(page)
        machine.note("mend", page)
        machine.mend("mend", page)

    def mixed_pages(self):
        """Returns the ascending list of the mixed pages."""
        return list(self._up("mixed_pages").mixed)

    def root(self):
        """Tells behind which line the chain may begin, and returns the number of this line."""
        machine = self._up("root")
        number, place = machine.last_written()
        if number + 1 <= machine.contents[ROOT_PAGE][0]:
            raise Refused("root")
        deed = machine.deed_on_root(("begin", number + 1, place, machine.weave.newest()))
        if deed is None or machine.logbook.free() < 1:
            raise Full("root")
        machine.note("root")
        machine.tell_log("root", [[deed]], False)
        return number

    def clear(self):
        """Clears the book and the shelf, and returns the list of what went."""
        machine = self._up("clear")
        book, standing = machine.weave.book(), machine.weave.standing()
        pins = list(self.pins().values())
        held = sorted(set(machine.weave.held() + pins + [standing]))
        deeds = deeds_of_clearing(machine.contents, held, book.newest(), machine.next_number)
        if deeds and not machine.has_room_for(deeds):
            raise Full("clear")
        machine.note("clear")
        machine.tell_log("clear", [[deed] for deed in deeds], False)
        machine.weave.exchange(cleared_book(book, held, book.newest()))
        return places_in(gone_rows(book, held, book.newest()))

    def join(self):
        """Puts pages together."""
        machine = self._up("join")
        deeds = deeds_of_joining(machine.contents, machine.next_number)
        if not deeds:
            raise Refused("join")
        if not machine.has_room_for(deeds):
            raise Full("join")
        if machine.closing(deeds) is not None:
            raise Refused("join")
        machine.note("join")
        machine.tell_log("join", [deeds], False)

    def pin(self, name, commit):
        """Sets a pin."""
        machine = self._up("pin")
        if not is_word(name):
            raise InvalidName(name)
        weave = machine.weave
        pins = list(self.pins().values())
        if not is_count(commit) or commit not in [weave.standing()] + weave.held() + pins:
            raise InvalidCommit(commit)
        deed = machine.deed_on_root(("pin", name, commit))
        if deed is None or not machine.has_room_for([deed]):
            raise Full(name)
        machine.note("pin", name, commit)
        machine.tell_log("pin", [[deed]], False)

    def unpin(self, name):
        """Takes a pin away."""
        machine = self._up("unpin")
        if not is_word(name):
            raise InvalidName(name)
        if name not in self.pins():
            raise Refused(name)
        deed = machine.deed_on_root(("unpin", name))
        if deed is None or not machine.has_room_for([deed]):
            raise Full(name)
        machine.note("unpin", name)
        machine.tell_log("unpin", [[deed]], False)

    def pins(self):
        """Returns the dictionary of the pins."""
        return pins_in(self._up("pins").contents)

    def cut(self, many):
        """Lets the power be lost behind so many more steps."""
        machine = self._up("cut")
        need_count(many)
        machine.note("cut", many)
        machine.steps_left = many

    def fall(self, picture):
        """Loses the power, and leaves the disc with a picture of it."""
        machine = self.machine
        if not is_picture(machine.drive, picture):
            raise InvalidChoice(picture)
        machine.note("fall", list(picture))
        machine.drive = fall(machine.drive, picture)
        machine.lose()
        machine.fallen = True

    def harm(self, harms):
        """Changes cells of the disc that a fall left."""
        machine = self.machine
        if not machine.fallen:
            raise Refused(harms)
        late = with_cells(machine.drive.standing(), harms)
        machine.note("harm", {cell: content for cell, content in harms.items()})
        machine.drive = disc_of(late)

    def wake(self):
        """Reads the disc, runs again, and returns the newest commit."""
        machine = self.machine
        if not machine.fallen:
            raise Refused("wake")
        machine.start()
        machine.note("wake")
        return machine.weave.newest()

    def is_down(self):
        """Returns whether the store is down."""
        return self.machine.down

    def disc(self):
        """Returns a copy of the disc."""
        return self.machine.drive.copy()

    def shelf(self):
        """Returns the newest shelf."""
        return fresh_shelf(self._up("shelf").contents)

    def stamps(self):
        """Returns the dictionary from the pages to their newest stamps."""
        return {page: stamp for page, stamp in self._up("stamps").newest_stamps.items()}

    def stamps_standing(self):
        """Returns the dictionary from the pages to the stamps that stand on the disc."""
        return {page: stamp for page, stamp in self._up("stamps_standing").stood.items()}

    def lines(self):
        """Returns the list of the lines that are not given up."""
        return [fresh_line(line) for line in self._up("lines").logbook.held_lines]

    def lines_standing(self):
        """Returns the number of the last line that ever stood."""
        return self._up("lines_standing").last_standing

    def run(self):
        """Returns the run of the steps since the store was made or woke."""
        return list(self._up("run").tally.events)

    def waits(self):
        """Returns the ascending list of the waits of the run."""
        return sorted(set(self._up("waits").tally.waits_found))

    def trial(self):
        """Returns a block, behind which the store is as it was when it was entered."""
        return Trial(self)

    def attempt(self, action):
        """Calls a function with the store in such a block, and returns what it returns."""
        with self.trial() as store:
            return action(store)

    def copy(self):
        """Returns a store like this one that goes its own way, and is in no block."""
        other = Store(LEAST_PAGES, LEAST_PLACES)
        other.machine = self.machine.twin()
        return other

    def record(self):
        """Returns the list of the deeds made, the eldest first."""
        return [fresh(deed) for deed in self.machine.deeds_made]


def need_page_of(machine, page):
    """Raises InvalidPage unless it is a page of a store's disc."""
    if not is_count_below(page, machine.pages):
        raise InvalidPage(page)


def replayed(store, record):
    """Returns a copy of a store on which deeds are made again, the next one behind what raises Fallen."""
    if not isinstance(store, Store):
        raise InvalidStore(store)
    if not is_record(record):
        raise InvalidRecord(record)
    late = store.copy()
    for deed in record:
        try:
            make_again(late, deed)
        except Fallen:
            pass
    return late
