"""Lines of the log as twenty cells: sixteen numbers of a text, guarded by three checks."""

from weavestore.deeds import is_deed
from weavestore.kinds import GREAT_PRIME, is_count, is_tuple_of
from weavestore.texts import MOST_SIGNS, deed_of_text, fits_line, text_of_deed

SIGNS = " (),-0123456789abcdefghijklmnopqrstuvwxyz"
LINE_CELLS = 20
TEXT_CELLS = 16
SIGNS_IN_CELL = 9
BASE = 95
FIRST_CODE = 32
HALF = 1152921504606846976


def is_line(value):
    """Whether any object is a line of the log."""
    if not is_tuple_of(value, 4):
        return False
    number, ahead, last, deed = value
    if not is_count(number) or not is_count(ahead) or ahead >= number or not isinstance(last, bool):
        return False
    if not is_deed(deed) or deed[0] != number or not fits_line(deed):
        return False
    return head_of(value) < GREAT_PRIME


def head_of(line):
    """The number in the first cell of a line: twice the number of the line ahead, one more for a last one."""
    if line[2]:
        return 2 * line[1] + 1
    return 2 * line[1]


def text_numbers(text):
    """The sixteen numbers of a text, filled up with blanks."""
    full = text.ljust(MOST_SIGNS)
    found = []
    for start in range(0, MOST_SIGNS, SIGNS_IN_CELL):
        number = 0
        for sign in full[start : start + SIGNS_IN_CELL]:
            number = number * BASE + ord(sign) - FIRST_CODE
        found.append(number)
    return found


def text_of_numbers(numbers):
    """The text that has sixteen numbers, without the blanks behind it, None if no deed's text has them."""
    signs = {ord(sign) - FIRST_CODE: sign for sign in SIGNS}
    backwards = []
    for number in reversed(numbers):
        for _ in range(SIGNS_IN_CELL):
            number, code = divmod(number, BASE)
            backwards.append(signs.get(code))
        if number > 0 or None in backwards:
            return None
    return "".join(backwards[::-1]).rstrip(" ")


def sums_of(numbers):
    """What is left by the prime of the sums of the numbers, times nought, one and two times their places."""
    plain = sum(numbers)
    placed = sum([(at + 1) * number for at, number in enumerate(numbers)])
    squared = sum([(at + 1) * (at + 1) * number for at, number in enumerate(numbers)])
    return plain % GREAT_PRIME, placed % GREAT_PRIME, squared % GREAT_PRIME


def with_checks(numbers):
    """The seventeen numbers and the three checks that leave no rest of the three sums."""
    plain, placed, squared = sums_of(numbers)
    # With the places counted from that of the first check on, the sums of x, y and z are those of
    # x + y + z, y + 2 z and y + 4 z.
    once = placed - 18 * plain
    twice = squared - 36 * placed + 324 * plain
    last = (once - twice) * HALF
    middle = twice - 2 * once
    return numbers + [check % GREAT_PRIME for check in [0 - plain - middle - last, middle, last]]


def cells_of(line):
    """The twenty contents of a line."""
    numbers = with_checks([head_of(line)] + text_numbers(text_of_deed(line[3])))
    return [(line[0], number) for number in numbers]


def whole_line(cells):
    """The line that has just these twenty cells, None if there is none."""
    if None in cells or not all([stamp == cells[0][0] for stamp, number in cells]):
        return None
    number = cells[0][0]
    ahead, last = divmod(cells[0][1], 2)
    text = text_of_numbers([part for stamp, part in cells[1 : TEXT_CELLS + 1]])
    if text is None:
        return None
    line = (number, ahead, last == 1, deed_of_text(number, text))
    if not is_line(line) or cells_of(line) != cells:
        return None
    return line


def common_stamp(cells):
    """The stamp of all cells but one at most, None if there is none."""
    stamps = [cell[0] for cell in cells if cell is not None]
    for stamp in stamps[:2]:
        if stamps.count(stamp) >= LINE_CELLS - 1:
            return stamp
    return None


def mended_line(cells):
    """The tuple of the line that comes if one cell is changed, and of its place, None if there is none."""
    stamp = common_stamp(cells)
    if stamp is None:
        return None
    odd = [at for at, cell in enumerate(cells) if cell is None or cell[0] != stamp]
    numbers = [0 if at in odd else cell[1] for at, cell in enumerate(cells)]
    plain, placed, squared = sums_of(numbers)
    for at in odd or list(range(LINE_CELLS)):
        # A cell that is too great by some number makes the sums too great by it, times nought,
        # one and two times its place.
        times = at + 1
        if (placed - times * plain) % GREAT_PRIME == 0 and (squared - times * placed) % GREAT_PRIME == 0:
            put = (stamp, (numbers[at] - plain) % GREAT_PRIME)
            line = whole_line([put if place == at else cell for place, cell in enumerate(cells)])
            if line is not None:
                return (line, at)
    return None


def told_line(cells):
    """The line that twenty cells tell, whole or mended, None if they tell none."""
    line = whole_line(cells)
    if line is not None:
        return line
    mended = mended_line(cells)
    if mended is None:
        return None
    return mended[0]
