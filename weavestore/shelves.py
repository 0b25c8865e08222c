"""Shelves: keys over pages that split and join, and the deeds that do it."""

from weavestore.contents import DIRECTORY_PAGE, FIRST_ROWS, ROOT_PAGE, content_of_text, fits_page, fresh_content
from weavestore.contents import is_content_of, text_of_content
from weavestore.deeds import are_deeds
from weavestore.errors import Full, InvalidCommit, InvalidContent, InvalidCount, InvalidDeeds, InvalidHeld, InvalidName
from weavestore.errors import InvalidPage, InvalidShelf, InvalidSnapshot, InvalidText, InvalidWrites, Refused
from weavestore.figures import are_figures, count_of, figures_of
from weavestore.keys import are_writes, ascending, key_order
from weavestore.kinds import are_ascending_counts, is_count, is_count_below, is_count_from_one, is_word
from weavestore.meanings import cleared_rows, content_made, rows_from, shelf_behind, with_version
from weavestore.needs import need_count, need_count_from_one, need_key
from weavestore.versions import Book

LEAST_PAGES = 3
MOST_PAGES = 60
MOST_HELD = 10
MOST_FIGURES = 11
BEHIND_STAMPS = 100000000000


def is_shelf(value):
    """Returns whether any object is a shelf."""
    if not isinstance(value, list) or len(value) < LEAST_PAGES:
        return False
    if not all([is_content_of(page, content) for page, content in enumerate(value)]):
        return False
    if not all([page < len(value) for key, page in value[DIRECTORY_PAGE]]):
        return False
    return all([fits_page(page, content) for page, content in enumerate(value)])


def need_shelf(shelf):
    """Raises InvalidShelf unless it is a shelf."""
    if not is_shelf(shelf):
        raise InvalidShelf(shelf)


def bare_shelf(pages):
    """The shelf of so many pages that stands where nothing was ever written."""
    return [(1, 0, 0, {}), [(None, FIRST_ROWS)]] + [{} for _ in range(pages - FIRST_ROWS)]


def new_shelf(pages):
    """Returns the shelf of so many pages that stands where nothing was ever written."""
    if not is_count_below(pages, MOST_PAGES + 1) or pages < LEAST_PAGES:
        raise InvalidCount(pages)
    return bare_shelf(pages)


def page_with(shelf, key):
    """The used page that has a key."""
    ahead = [page for low, page in shelf[DIRECTORY_PAGE] if low is None or key_order(low) <= key_order(key)]
    return ahead[-1]


def rows_that_count(shelf):
    """The dictionary from the used pages to the rows of each that count."""
    return {
        used: {key: versions for key, versions in shelf[used].items() if page_with(shelf, key) == used}
        for low, used in shelf[DIRECTORY_PAGE]
    }


def tidy(shelf):
    """Whether no page of a shelf has rows that do not count."""
    counting = rows_that_count(shelf)
    pages = range(FIRST_ROWS, len(shelf))
    return all([len(counting.get(page, {})) == len(shelf[page]) for page in pages])


def need_tidy(shelf):
    """Raises Refused with a shelf unless it is tidy."""
    if not tidy(shelf):
        raise Refused(shelf)


def page_of(shelf, key):
    """Returns the used page that has a key."""
    need_shelf(shelf)
    need_key(key)
    return page_with(shelf, key)


def keys_of(shelf, page):
    """Returns the ascending list of the keys whose rows count in a page."""
    need_shelf(shelf)
    if not is_count_below(page, len(shelf)):
        raise InvalidPage(page)
    return ascending(rows_that_count(shelf).get(page, {}))


def rows_in(shelf):
    """The dictionary of all rows of a shelf that count."""
    return {key: versions for rows in rows_that_count(shelf).values() for key, versions in rows.items()}


def book_in(shelf, newest):
    """Returns the book of all rows that count."""
    need_shelf(shelf)
    return Book(rows_in(shelf), newest)


def is_tidy(shelf):
    """Returns whether no page has rows that do not count."""
    need_shelf(shelf)
    return tidy(shelf)


def need_content(page, content):
    """Raises InvalidPage, then InvalidContent, unless they are a page and a content of it."""
    if not is_count(page):
        raise InvalidPage(page)
    if not is_content_of(page, content):
        raise InvalidContent(content)


def content_text(page, content):
    """Returns the text of a content."""
    need_content(page, content)
    return text_of_content(page, content)


def content_by(page, text):
    """Returns the content that has a text."""
    if not is_count(page):
        raise InvalidPage(page)
    content = content_of_text(page, text) if isinstance(text, str) else None
    if content is None:
        raise InvalidText(text)
    return content


def page_text(page, content, stamp):
    """Returns the text of a page: the stamp, and the content's text."""
    need_content(page, content)
    if not is_count_below(stamp, BEHIND_STAMPS):
        raise InvalidCount(stamp)
    if not fits_page(page, content):
        raise Full(content)
    return figures_of(stamp) + " " + text_of_content(page, content)


def stamped(page, text):
    """The tuple of the content and of the stamp of a text of a page, None if it is none."""
    figures, blank, rest = text.partition(" ")
    content = content_of_text(page, rest)
    if not blank or content is None or not fits_page(page, content):
        return None
    if not are_figures(figures) or len(figures) > MOST_FIGURES:
        return None
    return (content, count_of(figures))


def page_by(page, text):
    """Returns the tuple of the content and of the stamp of a text of a page."""
    if not is_count(page):
        raise InvalidPage(page)
    told = stamped(page, text) if isinstance(text, str) else None
    if told is None:
        raise InvalidText(text)
    return told


def made(shelf, deed):
    """Returns the content that a deed's page has behind it."""
    need_shelf(shelf)
    return content_made(shelf, deed)


def fresh_shelf(shelf):
    """A shelf like one, its keys and names ascending, with lists and dictionaries of its own."""
    return [fresh_content(page, content) for page, content in enumerate(shelf)]


def behind(shelf, deeds):
    """Returns the shelf behind a list of deeds."""
    need_shelf(shelf)
    if not are_deeds(deeds):
        raise InvalidDeeds(deeds)
    return fresh_shelf(shelf_behind(shelf, deeds))


class Telling:
    """A shelf, and the deeds that were told of it so far, with numbers that go on."""

    def __init__(self, shelf, number):
        self.contents = list(shelf)
        self.next_one = number
        self.told = []

    def tell(self, page, reads, words):
        """Tells one deed more."""
        deed = (self.next_one, page, reads, words)
        self.contents[page] = content_made(self.contents, deed)
        self.told.append(deed)
        self.next_one = self.next_one + 1

    def part(self, page, key):
        """Parts a page so that there is room for a key; returns whether that can be."""
        keys = ascending({**self.contents[page], key: True})
        used = [each for low, each in self.contents[DIRECTORY_PAGE]]
        unused = [each for each in range(FIRST_ROWS, len(self.contents)) if each not in used]
        if len(keys) == 1 or not unused:
            return False
        parting = keys[len(keys) // 2]
        if not fits_page(DIRECTORY_PAGE, self.contents[DIRECTORY_PAGE] + [(parting, unused[0])]):
            return False
        self.tell(unused[0], sorted([page, unused[0]]), ("copy", parting, page))
        self.tell(DIRECTORY_PAGE, [DIRECTORY_PAGE], ("point", parting, unused[0]))
        self.tell(page, [page], ("trim", parting))
        return True

    def put(self, key, commit, thing):
        """Puts a version in, its page parted as long as it does not fit; returns whether that can be."""
        page = page_with(self.contents, key)
        while not fits_page(page, with_version(self.contents[page], key, (commit, thing))):
            if not self.part(page, key):
                return False
            page = page_with(self.contents, key)
        self.tell(page, [page], ("put", key, commit, thing))
        return True

    def put_together(self, page, low, other):
        """Puts the rows of the next entry's page, which begin with a key, to a page."""
        self.tell(page, sorted([page, other]), ("copy", low, other))
        self.tell(DIRECTORY_PAGE, [DIRECTORY_PAGE], ("unpoint", low))
        self.tell(other, [other], ("trim", low))


def greatest_commit(shelf):
    """The greatest commit of all rows of a shelf and of what its root tells."""
    commits = [version[0] for rows in shelf[FIRST_ROWS:] for versions in rows.values() for version in versions]
    return max(commits + [shelf[ROOT_PAGE][2]])


def deeds_of_commit(shelf, commit, writes, number):
    """The deeds that lay writes on a tidy shelf, None if there is no room."""
    telling = Telling(shelf, number)
    for key in ascending(writes):
        if not telling.put(key, commit, writes[key]):
            return None
    return telling.told


def commit_deeds(shelf, commit, writes, number):
    """Returns the list of the deeds that lay writes."""
    need_shelf(shelf)
    if not is_count(commit) or commit <= greatest_commit(shelf):
        raise InvalidCommit(commit)
    if not are_writes(writes) or not writes:
        raise InvalidWrites(writes)
    need_count_from_one(number)
    need_tidy(shelf)
    deeds = deeds_of_commit(shelf, commit, writes, number)
    if deeds is None:
        raise Full(writes)
    return deeds


def deeds_of_clearing(shelf, held, standing, number):
    """The deeds, ascending by pages, that clear the used pages in which a version may go."""
    telling = Telling(shelf, number)
    for page in sorted([used for low, used in shelf[DIRECTORY_PAGE]]):
        if cleared_rows(shelf[page], held, standing) != shelf[page]:
            telling.tell(page, [page], ("clear", tuple(held), standing))
    return telling.told


def clear_deeds(shelf, held, standing, number):
    """Returns the list of the deeds that clear the used pages in which a version may go."""
    need_shelf(shelf)
    if not are_ascending_counts(held) or len(held) > MOST_HELD:
        raise InvalidHeld(held)
    if not is_count(standing):
        raise InvalidSnapshot(standing)
    need_count_from_one(number)
    return deeds_of_clearing(shelf, held, standing, number)


def deeds_of_joining(shelf, number):
    """The deeds that put pages of a tidy shelf together."""
    telling = Telling(shelf, number)
    at = 0
    while at + 1 < len(telling.contents[DIRECTORY_PAGE]):
        page = telling.contents[DIRECTORY_PAGE][at][1]
        low, other = telling.contents[DIRECTORY_PAGE][at + 1]
        if fits_page(page, {**telling.contents[page], **rows_from(telling.contents[other], low)}):
            telling.put_together(page, low, other)
        else:
            at = at + 1
    return telling.told


def join_deeds(shelf, number):
    """Returns the list of the deeds that put pages together."""
    need_shelf(shelf)
    need_count_from_one(number)
    need_tidy(shelf)
    return deeds_of_joining(shelf, number)


def pins_in(shelf):
    """Returns the dictionary of the pins."""
    need_shelf(shelf)
    return fresh_content(ROOT_PAGE, shelf[ROOT_PAGE])[3]


def root_of(shelf):
    """Returns the tuple of the first line needed, of its place, and of the newest commit by then."""
    need_shelf(shelf)
    return shelf[ROOT_PAGE][:3]


def root_deed(shelf, number, words):
    """The one deed of some words on the root; raises Full with it if what comes does not fit."""
    telling = Telling(shelf, number)
    telling.tell(ROOT_PAGE, [ROOT_PAGE], words)
    return telling.told[0]


def need_word(name):
    """Raises InvalidName unless it is a word."""
    if not is_word(name):
        raise InvalidName(name)


def pin_deed(shelf, name, commit, number):
    """Returns the deed that sets a pin."""
    need_shelf(shelf)
    need_word(name)
    if not is_count(commit):
        raise InvalidCommit(commit)
    need_count_from_one(number)
    return root_deed(shelf, number, ("pin", name, commit))


def unpin_deed(shelf, name, number):
    """Returns the deed that takes a pin away."""
    need_shelf(shelf)
    need_word(name)
    need_count_from_one(number)
    if name not in shelf[ROOT_PAGE][3]:
        raise Refused(name)
    return root_deed(shelf, number, ("unpin", name))


def begin_deed(shelf, line, place, newest, number):
    """Returns the deed that sets the first line needed, its place, and the newest commit."""
    need_shelf(shelf)
    if not is_count_from_one(line):
        raise InvalidCount(line)
    need_count(place)
    need_count(newest)
    need_count_from_one(number)
    return root_deed(shelf, number, ("begin", line, place, newest))
