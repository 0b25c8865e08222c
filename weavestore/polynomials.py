"""Sums of powers over a prime: rows of digits, the lowest first, and equations between them."""

from weavestore.kinds import GREAT_PRIME


def inverse(number, prime):
    """The number that gives 1 if it is multiplied with one that the prime does not divide."""
    rest, divisor = prime, number % prime
    old, new = 0, 1
    while divisor > 1:
        times = rest // divisor
        rest, divisor = divisor, rest - times * divisor
        old, new = new, old - times * new
    return new % prime


def worth_at(digits, x, prime):
    """The worth of digits at a place."""
    total = 0
    for digit in reversed(digits):
        total = (total * x + digit) % prime
    return total


def powers_of(x, many, prime):
    """The list of the first so many powers, from the one with exponent 0 on."""
    found = []
    power = 1
    for _ in range(many):
        found.append(power)
        power = power * x % prime
    return found


def trimmed(digits):
    """The digits without noughts at the high end."""
    many = len(digits)
    while many > 0 and digits[many - 1] == 0:
        many = many - 1
    return digits[:many]


def added(one, other, times, prime):
    """The digits of one and so many times the other."""
    many = max(len(one), len(other))
    longer = one + [0] * (many - len(one))
    late = other + [0] * (many - len(other))
    return [(x + times * y) % prime for x, y in zip(longer, late)]


def multiplied(one, other, prime):
    """The digits of a product."""
    found = [0] * (len(one) + len(other))
    for at, x in enumerate(one):
        for step, y in enumerate(other):
            found[at + step] = (found[at + step] + x * y) % prime
    return trimmed(found)


def divided(digits, divisor, prime):
    """The digits of a quotient that leaves no rest, None if one is left; the divisor is not nought."""
    by = trimmed(divisor)
    back = inverse(by[-1], prime)
    rest = list(digits)
    found = [0] * max(0, len(rest) - len(by) + 1)
    for at in reversed(range(len(found))):
        times = rest[at + len(by) - 1] * back % prime
        found[at] = times
        for step, digit in enumerate(by):
            rest[at + step] = (rest[at + step] - times * digit) % prime
    if trimmed(rest):
        return None
    return trimmed(found)


def root_of_number(number, prime):
    """A number whose square leaves this rest, None if there is none."""
    if prime != GREAT_PRIME:
        for root in range(prime):
            if root * root % prime == number:
                return root
        return None
    # The great prime is 3 more than a multiple of 4, so the power with the exponent (prime + 1) / 4,
    # which is 2 ** 59, of a square is a root of it.
    root = number
    for _ in range(59):
        root = root * root % prime
    if root * root % prime != number:
        return None
    return root


def root_of_square(digits, prime):
    """Digits whose square these are, None if there are none; the prime is odd."""
    square = trimmed(digits)
    if not square:
        return []
    if len(square) % 2 == 0:
        return None
    highest = root_of_number(square[-1], prime)
    if highest is None:
        return None
    many = len(square) // 2 + 1
    half = inverse(2 * highest, prime)
    root = [0] * (many - 1) + [highest]
    for at in reversed(range(many - 1)):
        # The digit of the square at this place holds twice the highest digit times the wanted
        # one, and besides it only products of digits that are known by now.
        known = sum([root[step] * root[at + many - 1 - step] for step in range(at + 1, many - 1)])
        root[at] = (square[at + many - 1] - known) * half % prime
    if multiplied(root, root, prime) != square:
        return None
    return root


def solved(rows, many, prime):
    """Any solution of equations for so many unknown numbers, None if there is none.

    Each row has the factor of each of them, and then what the sum has to be.
    """
    left = list(rows)
    leads = []
    for column in range(many):
        heads = [row for row in left if row[column] != 0]
        if heads:
            back = inverse(heads[0][column], prime)
            lead = [number * back % prime for number in heads[0]]
            left = without_column(left, lead, column, prime)
            leads.append((column, lead))
    if left:
        # What is left tells that nought is something else.
        return None
    return filled_in(leads, many, prime)


def without_column(rows, lead, column, prime):
    """The rows in which a column is made nought by a leading row, those that say nothing left out."""
    found = []
    for row in rows:
        times = row[column]
        if times != 0:
            row = [(number - times * by) % prime for number, by in zip(row, lead)]
        if any(row):
            found.append(row)
    return found


def filled_in(leads, many, prime):
    """The solution of equations in steps in which all numbers that may be anything are 0."""
    found = [0] * many
    for column, lead in reversed(leads):
        known = sum([lead[at] * found[at] for at in range(column + 1, many)])
        found[column] = (lead[many] - known) % prime
    return found
