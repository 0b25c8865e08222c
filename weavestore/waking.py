"""What a disc tells of a store behind a fall: its pages, its log, and what can't be told any more."""

from weavestore.chain import chain_from, next_number, up_to_commit
from weavestore.contents import DIRECTORY_PAGE, ROOT_PAGE
from weavestore.errors import Refused
from weavestore.loglines import LINE_CELLS
from weavestore.opening import pages_told
from weavestore.pages import PAGE_CELLS, shown, writes_over
from weavestore.shelves import stamped


def text_at(picture, page):
    """The text that is shown in a page, None if there is none."""
    try:
        return shown(picture, page)
    except Refused:
        return None


def is_mixed(picture, page, text):
    """Whether the cells of a page are not just those of the text that is shown."""
    start = PAGE_CELLS * page
    return writes_over(picture[start : start + PAGE_CELLS], page, text) != []


def ring_of_places(picture, pages):
    """The list of the lists of cells of the places behind so many pages."""
    first = PAGE_CELLS * pages
    return [picture[start : start + LINE_CELLS] for start in range(first, len(picture), LINE_CELLS)]


def is_of_store(page, content, pages, places):
    """Whether a content is one of a page of a store with so many pages and places."""
    if page == ROOT_PAGE:
        return content[1] < places
    return page != DIRECTORY_PAGE or all([used < pages for key, used in content])


def told_by_text(page, text, pages, places):
    """The tuple of the content and of the stamp that a text, or None, tells in a page of a store, None if none."""
    told = None if text is None else stamped(page, text)
    if told is None or not is_of_store(page, told[0], pages, places):
        return None
    return told


class Findings:
    """What a picture of a store's disc with so many pages tells; lost pages have the stamp 0."""

    def __init__(self, picture, pages):
        self.ring = ring_of_places(picture, pages)
        self.texts = [text_at(picture, page) for page in range(pages)]
        told = [told_by_text(page, text, pages, len(self.ring)) for page, text in enumerate(self.texts)]
        self.lost = [page for page, pair in enumerate(told) if pair is None]
        self.stamps = {page: 0 if pair is None else pair[1] for page, pair in enumerate(told)}
        self.contents = [None if pair is None else pair[0] for pair in told]
        shown_pages = [page for page, text in enumerate(self.texts) if text is not None]
        self.mixed = [page for page in shown_pages if is_mixed(picture, page, self.texts[page])]
        self.lines = []
        if ROOT_PAGE not in self.lost:
            self.lines = up_to_commit(chain_from(self.ring, self.root()[1], self.root()[0] - 1))

    def root(self):
        """The root that is shown."""
        return self.contents[ROOT_PAGE]

    def deeds_told(self):
        """The list of the deeds of the committed lines."""
        return [line[3] for line in self.lines]

    def last_number(self):
        """The number of the last committed line, one less than the root's line if there is none."""
        return self.lines[-1][0] if self.lines else self.root()[0] - 1

    def untold(self):
        """The ascending list of the pages that are lost or not told behind the last committed line."""
        if ROOT_PAGE in self.lost:
            return self.lost
        told = pages_told(self.stamps, self.deeds_told(), self.lost, self.last_number())
        return [page for page in self.stamps if page not in told]

    def redone(self):
        """The list of the deeds to be done again."""
        return [deed for deed in self.deeds_told() if self.stamps[deed[1]] < deed[0]]

    def newest_commit(self):
        """The newest commit, told by the root and by the puts in the chain."""
        puts = [deed[3][2] for deed in self.deeds_told() if deed[3][:1] == ("put",)]
        return max(puts + [self.root()[2]])

    def number_behind(self):
        """The number of the next line."""
        return next_number(self.ring, self.last_number() + 1)
