"""Plain looks at any object: which of the kinds of values that the modules share it is."""

GREAT_PRIME = 2305843009213693951
LETTERS = "abcdefghijklmnopqrstuvwxyz"
MOST_LETTERS = 8


def is_whole_number(value):
    """Whether any object is an integer that is no Boolean."""
    return isinstance(value, int) and not isinstance(value, bool)


def is_count(value):
    """Whether any object is a whole number of at least 0."""
    return is_whole_number(value) and value >= 0


def is_count_below(value, bound):
    """Whether any object is a count below a bound."""
    return is_count(value) and value < bound


def is_count_from_one(value):
    """Whether any object is a count of at least 1."""
    return is_count(value) and value >= 1


def is_tuple_of(value, length):
    """Whether any object is a tuple of so many parts."""
    return isinstance(value, tuple) and len(value) == length


def ascends(values):
    """Whether the values of a list, all of one kind, ascend without doubles."""
    return all([one < other for one, other in zip(values, values[1:])])


def are_ascending_counts(value):
    """Whether any object is an ascending list of counts."""
    return isinstance(value, list) and all([is_count(part) for part in value]) and ascends(value)


def are_ascending_below(value, bound):
    """Whether any object is an ascending list of counts below a bound."""
    return are_ascending_counts(value) and all([part < bound for part in value])


def is_word(value):
    """Whether any object is a string of one to eight letters."""
    if not isinstance(value, str) or not 1 <= len(value) <= MOST_LETTERS:
        return False
    return all([letter in LETTERS for letter in value])


def is_content(value):
    """Whether any object is a content of a cell: a stamp and a number below the great prime."""
    return is_tuple_of(value, 2) and is_count(value[0]) and is_count_below(value[1], GREAT_PRIME)


def may_stand_in_cell(value):
    """Whether any object is a content, or None for nothing."""
    return value is None or is_content(value)


def is_row_of_cells(value):
    """Whether any object is a list, perhaps empty, of contents and None."""
    return isinstance(value, list) and all([may_stand_in_cell(part) for part in value])
