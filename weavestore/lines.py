"""Lines over a prime: pages with so many signs that the mixtures of any two are read back."""

from weavestore.errors import InvalidCell, InvalidLine, InvalidPage, Refused
from weavestore.kinds import GREAT_PRIME, are_ascending_below, is_count, is_count_below
from weavestore.needs import need_changed_and_unread
from weavestore.polynomials import added, divided, inverse, multiplied, powers_of, root_of_square, solved, worth_at

PRIMES_END = 1000


class Line:
    """A line: the pages whose signs are the worths of digits at the places 1, 2, .. over a prime."""

    def __init__(self, prime, cells, size):
        if not is_prime_of_line(prime):
            raise InvalidLine(prime)
        if not is_count_below(cells, prime + 1) or cells < 1:
            raise InvalidLine(cells)
        if not is_count(size) or size < 1 or cells <= 4 * (size - 1):
            raise InvalidLine(size)
        self._prime = prime
        self._cells = cells
        self._size = size

    def prime(self):
        """Returns the prime."""
        return self._prime

    def cells(self):
        """Returns the number of cells."""
        return self._cells

    def size(self):
        """Returns the size: how many digits a page has."""
        return self._size

    def __eq__(self, other):
        return (
            isinstance(other, Line)
            and self._prime == other._prime
            and self._cells == other._cells
            and self._size == other._size
        )


def is_prime_of_line(value):
    """Whether any object is an odd prime below 1,000 or the great one."""
    if not is_count(value):
        return False
    if value == GREAT_PRIME:
        return True
    return 3 <= value < PRIMES_END and all([value % divisor != 0 for divisor in range(2, value)])


def need_line(line):
    """Raises InvalidLine unless it is a line."""
    if not isinstance(line, Line):
        raise InvalidLine(line)


def digits_of(line, number):
    """The digits of the number of a page, the lowest first; None if no page has it."""
    if not is_count(number):
        return None
    found = []
    for _ in range(line.size()):
        number, digit = divmod(number, line.prime())
        found.append(digit)
    if number > 0:
        return None
    return found


def number_by(line, digits):
    """The number that has such digits."""
    number = 0
    for digit in reversed(digits):
        number = number * line.prime() + digit
    return number


def signs_by(line, digits):
    """The signs of the page that has such digits."""
    return [worth_at(digits, x, line.prime()) for x in range(1, line.cells() + 1)]


def need_signs_of_page(line, number):
    """The signs of a page; raises InvalidPage unless there is one of this number."""
    need_line(line)
    digits = digits_of(line, number)
    if digits is None:
        raise InvalidPage(number)
    return signs_by(line, digits)


def is_picture_of_signs(line, value):
    """Whether any object is a list of as many signs as the line has cells, and None."""
    if not isinstance(value, list) or len(value) != line.cells():
        return False
    return all([sign is None or is_count_below(sign, line.prime()) for sign in value])


def digits_of_page(line, page):
    """The digits of the page with just these signs, None if there is none.

    Signs at places one behind the other are those of a page exactly if their differences of the
    order of the size are all nought; the first ones of each order tell the digits.
    """
    prime = line.prime()
    firsts = []
    row = page
    for _ in range(line.size()):
        firsts.append(row[0])
        row = [(late - early) % prime for early, late in zip(row, row[1:])]
    if any(row):
        return None
    return digits_by_differences(firsts, prime)


def digits_by_differences(firsts, prime):
    """The digits whose first differences of each order, at the place 1, are these."""
    digits = [0]
    for order in reversed(range(len(firsts))):
        # From the highest order on: firsts + (x - order - 1) / (order + 1) times what is there.
        back = inverse(order + 1, prime)
        raised = multiplied(digits, [(prime - order - 1) * back % prime, back], prime)
        digits = added(raised, [firsts[order]], 1, prime)
    return (digits + [0] * len(firsts))[: len(firsts)]


def page_of(line, number):
    """Returns the list of the signs of a page."""
    return need_signs_of_page(line, number)


def number_of(line, page):
    """Returns the number of the page with these signs."""
    need_line(line)
    if not is_picture_of_signs(line, page) or None in page:
        raise InvalidPage(page)
    digits = digits_of_page(line, page)
    if digits is None:
        raise InvalidPage(page)
    return number_by(line, digits)


def holds(line, changed, unread):
    """Returns whether the line has cells enough for so many changed and unread ones."""
    need_line(line)
    need_changed_and_unread(changed, unread)
    return line.cells() > 4 * (line.size() - 1) + 3 * changed + unread


def many_agreeing(signs, value):
    """In how many cells a page has the sign of a picture."""
    return len([cell for cell in range(len(signs)) if signs[cell] == value[cell]])


def agreeing(line, number, value):
    """Returns in how many cells a page has the sign of a list of signs and None."""
    signs = need_signs_of_page(line, number)
    if not is_picture_of_signs(line, value):
        raise InvalidPage(value)
    return many_agreeing(signs, value)


def is_near(line, digits, value, changed):
    """Whether the page of digits is near a picture."""
    readable = len(value) - value.count(None)
    return 2 * many_agreeing(signs_by(line, digits), value) >= readable - changed


def read_line(line, value, changed, unread):
    """Returns the ascending list of the numbers of the pages that are near a picture of two pages."""
    need_line(line)
    if not is_picture_of_signs(line, value):
        raise InvalidPage(value)
    need_changed_and_unread(changed, unread)
    if value.count(None) > unread:
        raise InvalidPage(value)
    if not holds(line, changed, unread):
        raise Refused(line)
    rows = near_candidates(line, value, changed)
    return sorted([number_by(line, digits) for digits in rows if is_near(line, digits, value, changed)])


def near_candidates(line, value, changed):
    """The list of the digits of one or two unlike pages, all near ones among them."""
    if None not in value:
        digits = digits_of_page(line, value)
        if digits is not None:
            # Any other page agrees with a whole one in too few cells to be near it.
            return [digits]
    return roots_of_equation(line, value, changed)


def roots_of_equation(line, value, changed):
    """The digits of the pages f with E f f - A f + B nought everywhere, for any such E, A and B."""
    prime = line.prime()
    parts = equation_of(line, value, changed)
    if parts is None:
        return []
    first, second, third = parts
    inside = added(multiplied(second, second, prime), multiplied(first, third, prime), prime - 4, prime)
    root = root_of_square(inside, prime)
    if root is None:
        return []
    found = []
    for sign in (1, prime - 1):
        digits = divided(added(second, root, sign, prime), [2 * digit % prime for digit in first], prime)
        if digits is not None and len(digits) <= line.size():
            filled = digits + [0] * (line.size() - len(digits))
            if filled not in found:
                found.append(filled)
    return found


def equation_of(line, value, changed):
    """The digits of any E, A and B with E z z - A z + B nought at each readable cell, None if there are none."""
    prime = line.prime()
    second = line.size() + changed
    third = 2 * line.size() - 1 + changed
    rows = []
    for cell, sign in enumerate(value):
        if sign is not None:
            powers = powers_of(cell + 1, third + 1, prime)
            squares = [sign * sign * power % prime for power in powers[: changed + 1]]
            linear = [(prime - sign) * power % prime for power in powers[:second]]
            last = (prime - squares[changed]) % prime
            rows.append(squares[:changed] + linear + powers[:third] + [last])
    found = solved(rows, changed + second + third, prime)
    if found is None:
        return None
    return found[:changed] + [1], found[changed : changed + second], found[changed + second :]


def mixture_of(line, number, other, cells):
    """Returns the picture of two pages in which some cells have the other one's signs."""
    signs = need_signs_of_page(line, number)
    late = need_signs_of_page(line, other)
    if not are_ascending_below(cells, line.cells()):
        raise InvalidCell(cells)
    taken = set(cells)
    return [late[cell] if cell in taken else signs[cell] for cell in range(line.cells())]
