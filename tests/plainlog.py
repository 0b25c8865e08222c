"""The tests' own looks at lines of the log, told word by word as the document does."""

from tests.support import GREAT, is_content, is_count, is_deed


def plain_words(part):
    if part is None:
        return "-"
    if isinstance(part, tuple):
        return "(" + " ".join(plain_words(each) for each in part) + ")"
    return str(part)


def plain_text(deed):
    number, page, reads, words = deed
    return str(page) + " " + ",".join(str(read) for read in reads) + " " + plain_words(words)


def is_deed_with_room(value):
    return is_deed(value) and len(plain_text(value)) <= 144


def is_line(value):
    if type(value) is not tuple or len(value) != 4:
        return False
    number, ahead, last, deed = value
    if not is_count(number) or not is_count(ahead) or ahead >= number or type(last) is not bool:
        return False
    return is_deed_with_room(deed) and deed[0] == number and 2 * ahead + last < GREAT


def is_chain(value):
    if type(value) is not list or not all(is_line(line) for line in value):
        return False
    return all(value[at][1] == value[at - 1][0] for at in range(1, len(value)))


def are_cells(value):
    return type(value) is list and len(value) == 20 and all(cell is None or is_content(cell) for cell in value)


def are_places(value):
    return type(value) is list and value != [] and all(are_cells(cells) for cells in value)


def checks_of(numbers):
    """The three checks behind seventeen numbers, told by trying: each sum by itself, one unknown after the other."""
    rows = [[place**power for place in (18, 19, 20)] for power in range(3)]
    rests = [-sum(number * (at + 1)**power for at, number in enumerate(numbers)) for power in range(3)]
    for at in range(3):
        inverse = pow(rows[at][at], -1, GREAT)
        rows[at] = [part * inverse % GREAT for part in rows[at]]
        rests[at] = rests[at] * inverse % GREAT
        for other in range(3):
            if other != at:
                times = rows[other][at]
                rows[other] = [(one - times * two) % GREAT for one, two in zip(rows[other], rows[at])]
                rests[other] = (rests[other] - times * rests[at]) % GREAT
    return rests


def plain_cells(line):
    """The twenty contents of a line, as the document words them."""
    number, ahead, last, deed = line
    text = plain_text(deed) + " " * (144 - len(plain_text(deed)))
    numbers = [2 * ahead + last]
    for at in range(16):
        signs = text[9 * at: 9 * at + 9]
        numbers.append(sum((ord(sign) - 32) * 95**(8 - place) for place, sign in enumerate(signs)))
    return [(number, part) for part in numbers + checks_of(numbers)]


def plain_line_at(cells, lines):
    """What twenty cells tell where only some lines could be: all of them are tried."""
    for line in lines:
        unlike = [at for at, (one, two) in enumerate(zip(cells, plain_cells(line))) if one != two]
        if not unlike:
            return ("whole", line)
        if len(unlike) == 1:
            return ("mended", line, unlike[0])
    return ("none",)


def plain_chain(places, start, ahead, lines):
    found = []
    for step in range(len(places)):
        told = plain_line_at(places[(start + step) % len(places)], lines)
        if told[0] == "none" or told[1][1] != ahead:
            return found
        found.append(told[1])
        ahead = told[1][0]
    return found


def up_to_last(lines):
    while lines and not lines[-1][2]:
        lines = lines[:-1]
    return lines
