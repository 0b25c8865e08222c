"""Writing pages back in place: which may be written, which wait for others, and which wait in a ring."""

from weavestore.deeds import are_right, is_deed, newest_stamps, pages_of
from weavestore.errors import InvalidDeed, InvalidPage, InvalidStamps, Refused
from weavestore.kinds import are_ascending_counts, is_count
from weavestore.needs import need_count


def need_right_stamps(deeds, stamps):
    """Raises InvalidDeeds, then InvalidStamps unless they are right stamps of deeds."""
    if not are_right(deeds, stamps):
        raise InvalidStamps(stamps)


def all_waits(deeds, stamps):
    """The ascending list of the tuples (page, page that it waits for, number of the deed)."""
    newest = newest_stamps(deeds)
    found = []
    for number, page, reads, words in deeds:
        if stamps[page] < number:
            others = [read for read in reads if read != page and stamps[read] < number <= newest[read]]
            found.extend([(read, page, number) for read in others])
    return sorted(found)


def waits(deeds, stamps):
    """Returns the ascending list of the tuples (page, page that it waits for, number of the deed)."""
    need_right_stamps(deeds, stamps)
    return all_waits(deeds, stamps)


def off_pages(deeds, stamps):
    """The ascending list of the pages whose stamps are not their newest ones."""
    return [page for page, stamp in newest_stamps(deeds).items() if stamps[page] != stamp]


def waited_for(deeds, stamps):
    """The dictionary from the pages whose stamps are not the newest to the pages that each waits for."""
    found = {page: [] for page in off_pages(deeds, stamps)}
    for page, other, _ in all_waits(deeds, stamps):
        if other not in found[page]:
            found[page].append(other)
    return found


def free_pages(deeds, stamps):
    """Returns the ascending list of the pages that are not newest and wait for none."""
    need_right_stamps(deeds, stamps)
    return [page for page, others in waited_for(deeds, stamps).items() if not others]


def layers_of(ahead):
    """The list of the layers of pages, each waiting for pages of layers ahead alone, and those that are left over."""
    left = list(ahead)
    layers = []
    free = [page for page in left if not ahead[page]]
    while free:
        layers.append(free)
        left = [page for page in left if page not in free]
        free = [page for page in left if not any([other in left for other in ahead[page]])]
    return layers, left


def ring_of(ahead):
    """Any list of pages each of which waits for the next one, the last for the first; None if there is none."""
    layers, left = layers_of(ahead)
    if not left:
        return None
    row = [left[0]]
    onward = next_within(ahead, left, left[0])
    while onward not in row:
        row.append(onward)
        onward = next_within(ahead, left, onward)
    return row[row.index(onward) :]


def next_within(ahead, pages, page):
    """The first of some pages that a page waits for."""
    return [other for other in ahead[page] if other in pages][0]


def ring(deeds, stamps):
    """Returns any ring, None if there is none."""
    need_right_stamps(deeds, stamps)
    return ring_of(waited_for(deeds, stamps))


def is_row_of_pages(ahead, value):
    """Whether any object is a list of pages each of which waits for the next one."""
    if not isinstance(value, list) or not all([is_count(page) and page in ahead for page in value]):
        return False
    return all([other in ahead[page] for page, other in zip(value, value[1:])])


def is_ring(deeds, stamps, value):
    """Returns whether any object is a ring."""
    need_right_stamps(deeds, stamps)
    ahead = waited_for(deeds, stamps)
    if not is_row_of_pages(ahead, value) or len(value) < 2:
        return False
    return len(set(value)) == len(value) and value[0] in ahead[value[-1]]


def groups(deeds, stamps):
    """Returns the list of the lists of pages that may be written one behind the other, None if there is a ring."""
    need_right_stamps(deeds, stamps)
    layers, left = layers_of(waited_for(deeds, stamps))
    if left:
        return None
    return layers


def need_no_ring(deeds, stamps):
    """Raises Refused with the stamps if there is a ring."""
    if ring_of(waited_for(deeds, stamps)) is not None:
        raise Refused(stamps)


def row_of_waits(deeds, stamps):
    """Returns any list of as many pages as there are groups, each waiting for the next one."""
    need_right_stamps(deeds, stamps)
    need_no_ring(deeds, stamps)
    ahead = waited_for(deeds, stamps)
    row = []
    for layer in reversed(layers_of(ahead)[0]):
        fit = [page for page in layer if not row or page in ahead[row[-1]]]
        row.append(fit[0])
    return row


def is_row_of_waits(deeds, stamps, value):
    """Returns whether any object is a list of as many pages as there are groups, each waiting for the next one."""
    need_right_stamps(deeds, stamps)
    need_no_ring(deeds, stamps)
    ahead = waited_for(deeds, stamps)
    return is_row_of_pages(ahead, value) and len(value) == len(layers_of(ahead)[0])


def need_next_deed(deeds, deed):
    """Raises InvalidDeed unless it is a deed whose number is greater than all."""
    if not is_deed(deed) or not all([other[0] < deed[0] for other in deeds]):
        raise InvalidDeed(deed)


def need_closable(deeds, stamps, deed):
    """Raises what is told for deeds, right stamps without a ring, and a deed that could be the next one."""
    need_right_stamps(deeds, stamps)
    need_next_deed(deeds, deed)
    need_no_ring(deeds, stamps)


def has_ring_with(deeds, stamps, deed):
    """Whether there is a ring with one deed more."""
    more = [*deeds, deed]
    return ring_of(waited_for(more, {page: stamps.get(page, 0) for page in pages_of(more)})) is not None


def closes_ring(deeds, stamps, deed):
    """Returns whether there is a ring with one deed more, there being none ahead."""
    need_closable(deeds, stamps, deed)
    return has_ring_with(deeds, stamps, deed)


def led_to(ahead, page):
    """The ascending list of a page and of the pages to which waits lead from it."""
    found = [page]
    late = [page]
    while late:
        late = sorted({other for each in late for other in ahead[each] if other not in found})
        found = found + late
    return sorted(found)


def ahead_of(deeds, stamps, deed):
    """Returns the groups that have to be written back ahead of a deed so that it closes no ring."""
    need_closable(deeds, stamps, deed)
    if not has_ring_with(deeds, stamps, deed):
        return []
    ahead = waited_for(deeds, stamps)
    pages = led_to(ahead, deed[1])
    return layers_of({page: ahead[page] for page in pages})[0]


def may_write(deeds, stamps, page, lines, unbarred, mixed):
    """Returns whether the newest content of a page may be written now."""
    return why_not_write(deeds, stamps, page, lines, unbarred, mixed) == []


def why_not_write(deeds, stamps, page, lines, unbarred, mixed):
    """Returns the ascending list of all reasons why the newest content of a page may not be written now."""
    need_right_stamps(deeds, stamps)
    newest = newest_stamps(deeds)
    if not is_count(page) or page not in newest:
        raise InvalidPage(page)
    need_count(lines)
    if not are_ascending_counts(unbarred):
        raise InvalidPage(unbarred)
    if not are_ascending_counts(mixed):
        raise InvalidPage(mixed)
    reasons = []
    if newest[page] > lines:
        reasons.append(("line", newest[page]))
    if page in mixed:
        reasons.append(("mixed",))
    if page in unbarred:
        reasons.append(("unbarred",))
    return reasons + [("wait", other, number) for waiting, other, number in all_waits(deeds, stamps) if waiting == page]
