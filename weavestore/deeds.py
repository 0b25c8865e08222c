"""Deeds that are done again by the one list that is right, and the stamps of the pages they write."""

from weavestore.errors import InvalidDeed, InvalidDeeds, InvalidStamps
from weavestore.kinds import are_ascending_counts, ascends, is_count, is_tuple_of, is_word
from weavestore.needs import need_count


def are_words(value):
    """Whether any object is a tuple of words, counts, None and tuples of these, however deep."""
    if not isinstance(value, tuple):
        return False
    ahead = [value]
    while ahead:
        part = ahead.pop()
        if isinstance(part, tuple):
            ahead.extend(list(part))
        elif part is not None and not is_count(part) and not is_word(part):
            return False
    return True


def is_deed(value):
    """Returns whether any object is a deed."""
    if not is_tuple_of(value, 4):
        return False
    number, page, reads, words = value
    if not is_count(number) or number < 1 or not is_count(page):
        return False
    return are_ascending_counts(reads) and page in reads and are_words(words)


def are_deeds(value):
    """Returns whether any object is a list of deeds with ascending numbers."""
    if not isinstance(value, list) or not all([is_deed(deed) for deed in value]):
        return False
    return ascends([deed[0] for deed in value])


def need_deeds(deeds):
    """Raises InvalidDeeds unless it is a list of deeds."""
    if not are_deeds(deeds):
        raise InvalidDeeds(deeds)


def pages_of(deeds):
    """The ascending list of the pages that deeds write or read."""
    return sorted({page for deed in deeds for page in deed[2]})


def stamps_up_to(deeds, number):
    """The dictionary from the pages, ascending, to their stamps behind the deeds up to a number."""
    stamps = {page: 0 for page in pages_of(deeds)}
    for deed in deeds:
        if deed[0] <= number:
            stamps[deed[1]] = deed[0]
    return stamps


def stamps_behind(deeds, number):
    """Returns the dictionary from the pages to their stamps behind the deeds up to a number."""
    need_deeds(deeds)
    need_count(number)
    return stamps_up_to(deeds, number)


def stamps_read(deeds, number):
    """Returns the dictionary from the pages that a deed reads to the stamps that they had ahead of it."""
    need_deeds(deeds)
    need_count(number)
    for deed in deeds:
        if deed[0] == number:
            stamps = stamps_up_to(deeds, number - 1)
            return {page: stamps[page] for page in deed[2]}
    raise InvalidDeed(number)


def numbers_by_pages(deeds):
    """The dictionary from the pages, ascending, to the lists of 0 and the numbers of the deeds that wrote them."""
    numbers = {page: [0] for page in pages_of(deeds)}
    for deed in deeds:
        numbers[deed[1]].append(deed[0])
    return numbers


def newest_stamps(deeds):
    """The dictionary from the pages, ascending, to their stamps behind all deeds."""
    return {page: numbers[-1] for page, numbers in numbers_by_pages(deeds).items()}


def are_stamps(deeds, value):
    """Returns whether any object is stamps of deeds."""
    need_deeds(deeds)
    numbers = numbers_by_pages(deeds)
    if not isinstance(value, dict) or len(value) != len(numbers):
        return False
    for page, stamp in value.items():
        if not is_count(page) or page not in numbers:
            return False
        if not is_count(stamp) or stamp not in numbers[page]:
            return False
    return True


def need_stamps(deeds, stamps):
    """Raises InvalidDeeds, then InvalidStamps unless they are stamps of deeds."""
    if not are_stamps(deeds, stamps):
        raise InvalidStamps(stamps)


def walked(deeds, stamps, numbers):
    """Returns the dictionary from the pages to what stands there behind some deeds done again."""
    need_stamps(deeds, stamps)
    told = [deed[0] for deed in deeds]
    if not are_ascending_counts(numbers) or not all([number in told for number in numbers]):
        raise InvalidDeeds(numbers)
    stands = {page: stamps[page] for page in pages_of(deeds)}
    first = {page: 0 for page in stands}
    for number, page, reads, words in deeds:
        if number in numbers:
            alike = all([stands[read] == first[read] for read in reads])
            stands[page] = number if alike else ("odd", number)
        first[page] = number
    return stands


def wrong_reads(deeds, stamps):
    """The list of the tuples of a deed that its page lacks and a page read that stands behind it."""
    found = []
    for deed in deeds:
        if stamps[deed[1]] < deed[0]:
            found.extend([(deed, page) for page in deed[2] if stamps[page] >= deed[0]])
    return found


def lacking(deeds, stamps):
    """The list of the numbers of the deeds that their pages lack."""
    return [deed[0] for deed in deeds if stamps[deed[1]] < deed[0]]


def are_right(deeds, stamps):
    """Returns whether some deeds done again lead to the stamps behind all deeds."""
    need_stamps(deeds, stamps)
    return wrong_reads(deeds, stamps) == []


def redone(deeds, stamps):
    """Returns the list of the numbers of the deeds to be done again, None if stamps are not right."""
    if not are_right(deeds, stamps):
        return None
    return lacking(deeds, stamps)


def why_wrong(deeds, stamps):
    """Returns a deed that its page lacks and a page read that stands behind it, None if stamps are right."""
    need_stamps(deeds, stamps)
    wrong = wrong_reads(deeds, stamps)
    if not wrong:
        return None
    return (wrong[0][0][0], wrong[0][1])


def is_why_wrong(deeds, stamps, value):
    """Returns whether any object is a deed that its page lacks and a page read that stands behind it."""
    need_stamps(deeds, stamps)
    if not is_tuple_of(value, 2) or not all([is_count(part) for part in value]):
        return False
    return value in [(deed[0], page) for deed, page in wrong_reads(deeds, stamps)]


def newest_right(deeds, stamps):
    """Returns the greatest right stamps that are, page by page, at most the told ones."""
    need_stamps(deeds, stamps)
    numbers = numbers_by_pages(deeds)
    found = {page: stamps[page] for page in numbers}
    wrong = wrong_reads(deeds, found)
    while wrong:
        # The deed's page can't be newer, so the page that it reads has to be elder than it.
        deed, page = wrong[0]
        found[page] = max([number for number in numbers[page] if number < deed[0]])
        wrong = wrong_reads(deeds, found)
    return found


def next_right(deeds, stamps):
    """Returns the least right stamps that are, page by page, at least the told ones."""
    need_stamps(deeds, stamps)
    found = {page: stamps[page] for page in pages_of(deeds)}
    wrong = wrong_reads(deeds, found)
    while wrong:
        # The page read can't be elder, so the deed's page has to stand behind the deed.
        deed, page = wrong[0]
        found[deed[1]] = deed[0]
        wrong = wrong_reads(deeds, found)
    return found


def need_two_stamps(deeds, one, other):
    """Raises InvalidDeeds, then InvalidStamps for the first one that is not as two stamps have to be."""
    need_stamps(deeds, one)
    need_stamps(deeds, other)
    if not all([stamp <= other[page] for page, stamp in one.items()]):
        raise InvalidStamps(other)


def all_mixes_right(deeds, one, other):
    """Returns whether all stamps are right that are, page by page, one or other."""
    return wrong_mix(deeds, one, other) is None


def wrong_mix(deeds, one, other):
    """Returns stamps, page by page one or other, that are not right, None if there are none."""
    need_two_stamps(deeds, one, other)
    for deed in deeds:
        for page in deed[2]:
            # A deed's page and a page that it reads show a wrong mix best as elder and as newer one.
            if one[deed[1]] < deed[0] <= other[page] and page != deed[1]:
                mix = {each: one[each] for each in pages_of(deeds)}
                mix[page] = other[page]
                return mix
    return None


def is_wrong_mix(deeds, one, other, value):
    """Returns whether any object is stamps, page by page one or other, that are not right."""
    need_two_stamps(deeds, one, other)
    if not are_stamps(deeds, value):
        return False
    if not all([stamp == one[page] or stamp == other[page] for page, stamp in value.items()]):
        return False
    return wrong_reads(deeds, value) != []
