"""The run of a store's steps, and what had to stand in it ahead of what."""

BARRIER = ("barrier",)
TELL = ("tell",)


class Tally:
    """The steps since the store was made or woke, and the waits among them.

    Stamps are those with which the pages stood at the beginning.
    """

    def __init__(self, stamps):
        self.stamps = stamps
        self.events = []
        self.waits_found = []
        self.line_ends = {}
        self.commit_ends = {}
        self.standing_end = None
        self.writings = {page: [] for page in stamps}
        self.page_ends = {}
        self.given_back = {}

    def twin(self):
        """A tally like this one that goes its own way."""
        other = Tally(self.stamps)
        other.events = list(self.events)
        other.waits_found = list(self.waits_found)
        other.line_ends = {number: at for number, at in self.line_ends.items()}
        other.commit_ends = {number: at for number, at in self.commit_ends.items()}
        other.standing_end = self.standing_end
        other.writings = {page: list(written) for page, written in self.writings.items()}
        other.page_ends = {page: at for page, at in self.page_ends.items()}
        other.given_back = {place: at for place, at in self.given_back.items()}
        return other

    def write(self, cell):
        """Adds one cell's write."""
        self.events.append(("write", cell))

    def many(self):
        """How many events there are, so the position of the next one."""
        return len(self.events)

    def line_written(self, number, place, first):
        """Tells that a line was just written to a place, its first write at a position."""
        if place in self.given_back:
            self.waits_found.append((self.given_back.pop(place), first))
        self.line_ends[number] = self.many() - 1

    def commit_written(self, numbers, lays_book):
        """Tells that the lines of one commit were just written, and whether it is a commit of the book."""
        for number in numbers:
            self.commit_ends[number] = self.line_ends[numbers[-1]]
        if lays_book:
            self.standing_end = self.line_ends[numbers[-1]]

    def page_written(self, page, first, stamp, elder, deeds):
        """Tells that a page was just written back with a stamp, behind an elder one, while deeds were in the log."""
        for ends in [self.line_ends, self.commit_ends]:
            if stamp in ends:
                self.waits_found.append((ends[stamp], first))
        for number, other, reads, words in deeds:
            if page in reads and page != other and elder < number <= stamp and self.stamps[other] < number:
                ahead = [end for written, end in self.writings[other] if written >= number]
                self.waits_found.extend([(end, first) for end in ahead[:1]])
        if page in self.page_ends:
            self.after_writing(self.page_ends[page], first)
        self.writings[page].append((stamp, self.many() - 1))
        self.page_ends[page] = self.many() - 1

    def after_writing(self, early, first):
        """Tells that a page's write waits behind the last one of its elder writing."""
        # What is mended may end in the very cell with which a writing back begins.
        late = first + 1 if self.events[first] == self.events[early] else first
        self.waits_found.append((early, late))

    def page_mended(self, page):
        """Tells that a page was just mended."""
        self.page_ends[page] = self.many() - 1

    def barrier(self, is_raised, places):
        """Adds a barrier and its telling, whether it raised the standing commit, and the places given up behind it."""
        self.events.append(BARRIER)
        self.events.append(TELL)
        if is_raised:
            self.waits_found.append((self.standing_end, self.many() - 1))
        for place in places:
            self.given_back[place] = self.page_ends[0]
