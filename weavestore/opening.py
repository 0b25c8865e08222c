"""Opening the store again: the deeds to be done, and what can still be told where pages or lines are lost."""

from weavestore.chain import need_chain, up_to_commit
from weavestore.errors import InvalidCount, InvalidPage, InvalidStamps, Refused
from weavestore.kinds import are_ascending_counts, is_count, is_tuple_of
from weavestore.needs import need_count


def beginning(lines):
    """The number that the first line names, 0 if there is no line."""
    if not lines:
        return 0
    return lines[0][1]


def last_committed(lines):
    """The number of the last committed line, the one that the first line names if there is none."""
    done = up_to_commit(lines)
    if not done:
        return beginning(lines)
    return done[-1][0]


def deeds_of(lines):
    """The deeds of a chain up to the last committed one."""
    return [line[3] for line in up_to_commit(lines)]


def need_stamps_and_lines(stamps, lines):
    """Raises InvalidStamps, then InvalidChain, then InvalidStamps unless the stamps have all pages of the deeds."""
    if not isinstance(stamps, dict) or not all([is_count(page) for page in stamps]):
        raise InvalidStamps(stamps)
    if not all([is_count(stamp) for stamp in stamps.values()]):
        raise InvalidStamps(stamps)
    need_chain(lines)
    if not all([page in stamps for deed in deeds_of(lines) for page in deed[2]]):
        raise InvalidStamps(stamps)


def need_pages(stamps, pages):
    """Raises InvalidPage unless it is an ascending list of pages of the stamps."""
    if not are_ascending_counts(pages) or not all([page in stamps for page in pages]):
        raise InvalidPage(pages)


def need_page(stamps, page):
    """Raises InvalidPage unless it is a page of the stamps."""
    if not is_count(page) or page not in stamps:
        raise InvalidPage(page)


def opened(stamps, lines, ahead):
    """Returns the number of the last committed line, and the list of the deeds to be done again."""
    need_stamps_and_lines(stamps, lines)
    need_count(ahead)
    if lines and lines[0][1] != ahead:
        raise InvalidCount(ahead)
    newest = ahead
    if up_to_commit(lines):
        newest = last_committed(lines)
    lacking = [deed for deed in deeds_of(lines) if stamps[deed[1]] < deed[0]]
    if not all([stamps[page] < deed[0] for deed in lacking for page in deed[2]]):
        raise Refused(stamps)
    if not all([stamp <= newest for stamp in stamps.values()]):
        raise Refused(stamps)
    return (newest, [deed[0] for deed in lacking])


def is_hurt_at(stamps, lost, deed, page):
    """Whether a page that a deed reads is lost, or stands behind the deed."""
    return page in lost or stamps[page] >= deed[0]


def spoilt_deeds(stamps, deeds, lost):
    """The list of the spoilt deeds."""
    found = []
    # The pages that a spoilt deed wrote behind their stamps: no later deed reads them as they were.
    written = {}
    for deed in deeds:
        if any([is_hurt_at(stamps, lost, deed, page) or page in written for page in deed[2]]):
            found.append(deed)
            if deed[0] > stamps[deed[1]]:
                written[deed[1]] = True
    return found


def pages_told(stamps, deeds, lost, number):
    """The ascending list of the pages that are told."""
    untold = [deed[1] for deed in spoilt_deeds(stamps, deeds, lost) if stamps[deed[1]] < deed[0] <= number]
    told = [page for page, stamp in stamps.items() if page not in lost and stamp <= number]
    return sorted([page for page in told if page not in untold])


def told_pages(stamps, lines, lost, number):
    """Returns the ascending list of the pages that are told."""
    need_stamps_and_lines(stamps, lines)
    need_pages(stamps, lost)
    need_count(number)
    return pages_told(stamps, deeds_of(lines), lost, number)


def row_from(stamps, spoilt, lost, deed):
    """The row of deeds and pages read from a spoilt deed on to what is lost or too new."""
    row = []
    while True:
        for page in deed[2]:
            if is_hurt_at(stamps, lost, deed, page):
                row.append((deed[0], page))
                return row
        ahead = [each for each in spoilt if stamps[each[1]] < each[0] < deed[0] and each[1] in deed[2]]
        row.append((deed[0], ahead[0][1]))
        deed = ahead[0]


def need_untold(stamps, lines, lost, number, page):
    """Raises what is told for all that is asked of one page."""
    need_stamps_and_lines(stamps, lines)
    need_pages(stamps, lost)
    need_count(number)
    need_page(stamps, page)


def why_untold(stamps, lines, lost, number, page):
    """Returns a list that tells why a page is not told, None if it is."""
    need_untold(stamps, lines, lost, number, page)
    if page in lost or stamps[page] > number:
        return []
    spoilt = spoilt_deeds(stamps, deeds_of(lines), lost)
    for deed in spoilt:
        if deed[1] == page and stamps[page] < deed[0] <= number:
            return row_from(stamps, spoilt, lost, deed)
    return None


def are_reads(deeds, value):
    """Whether any object is a list, not empty, of tuples of a deed's number and a page that it reads."""
    if not isinstance(value, list) or not value:
        return False
    for part in value:
        if not is_tuple_of(part, 2) or not all([is_count(each) for each in part]):
            return False
        if part[0] not in deeds or part[1] not in deeds[part[0]][2]:
            return False
    return True


def is_why_untold(stamps, lines, lost, number, page, value):
    """Returns whether any object tells why a page is not told."""
    need_untold(stamps, lines, lost, number, page)
    if page in lost or stamps[page] > number:
        return value == []
    deeds = {deed[0]: deed for deed in deeds_of(lines)}
    if not are_reads(deeds, value):
        return False
    if not is_hurt_at(stamps, lost, deeds[value[-1][0]], value[-1][1]):
        return False
    if not all([read not in lost for each, read in value[:-1]]):
        return False
    written = page
    below = number + 1
    for each, read in value:
        if deeds[each][1] != written or not stamps[written] < each < below:
            return False
        written = read
        below = each
    return True


def losses(stamps, lines, number, page):
    """Returns the ascending list of the pages whose loss alone keeps a page from being told, None if it is not."""
    need_stamps_and_lines(stamps, lines)
    need_count(number)
    need_page(stamps, page)
    deeds = deeds_of(lines)
    if page not in pages_told(stamps, deeds, [], number):
        return None
    return sorted([lost for lost in stamps if page not in pages_told(stamps, deeds, [lost], number)])


def greatest_told(stamps, lines, lost, pages):
    """Returns the greatest number of a last line, or of the beginning, behind which pages are told, None if none."""
    need_stamps_and_lines(stamps, lines)
    need_pages(stamps, lost)
    need_pages(stamps, pages)
    deeds = deeds_of(lines)
    for number in [line[0] for line in reversed(lines) if line[2]] + [beginning(lines)]:
        told = pages_told(stamps, deeds, lost, number)
        if all([page in told for page in pages]):
            return number
    return None


def lines_told(stamps, lines):
    """Returns the ascending lists of the pages with a stamp at most the last committed number, and above it."""
    need_stamps_and_lines(stamps, lines)
    newest = last_committed(lines)
    told = [page for page, stamp in stamps.items() if stamp <= newest]
    return (sorted(told), sorted([page for page in stamps if page not in told]))
