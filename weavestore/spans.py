"""Stretches of worths: where a test holds of one column."""

from weavestore.keys import worth_behind
from weavestore.kinds import LETTERS
from weavestore.wishes import inside_out, taken_off


def least_worth(kind):
    """The least worth of a kind."""
    if kind == "word":
        return LETTERS[0]
    return 0


def ends_ahead(one, other):
    """Whether an end, None behind everything, is ahead of another one."""
    return one is not None and (other is None or one < other)


def merged(spans):
    """The ascending list of spans, none touching the next one, that holds what some spans hold."""
    found = []
    for low, high in sorted([span for span in spans if ends_ahead(span[0], span[1])], key=lambda span: span[0]):
        if not found or ends_ahead(found[-1][1], low):
            found.append((low, high))
        elif ends_ahead(found[-1][1], high):
            found[-1] = (found[-1][0], high)
    return found


def common(spans, others):
    """The spans that hold what both hold."""
    found = []
    for low, high in spans:
        for least, end in others:
            found.append((max(low, least), high if ends_ahead(high, end) else end))
    return merged(found)


def common_of_all(rows):
    """The spans that hold what all of some lists of spans hold."""
    found = rows[0]
    for row in rows[1:]:
        found = common(found, row)
    return found


def spans_of_sign(sign, worth, least):
    """The spans in which a sign holds of a worth, from the least worth on."""
    behind = worth_behind(worth)
    if sign == "=":
        return merged([(worth, behind)])
    if sign == "<":
        return merged([(least, worth)])
    if sign == "<=":
        return merged([(least, behind)])
    if sign == ">=":
        return merged([(worth, None)])
    # There is nothing above the greatest worth.
    return merged([(behind, None)])


def both_spans(part, column, least):
    """The spans of an "is", and of what is otherwise."""
    if part[1] != column:
        return ([(least, None)], [(least, None)])
    sign, worth = part[2], part[3]
    if sign == "=":
        others = spans_of_sign("<", worth, least) + spans_of_sign(">", worth, least)
        return (spans_of_sign("=", worth, least), merged(others))
    turned = {"<": ">=", ">=": "<", ">": "<=", "<=": ">"}
    return (spans_of_sign(sign, worth, least), spans_of_sign(turned[sign], worth, least))


def spans_of_test(test, column, least):
    """The spans of a test for a column, from the least worth on."""
    stack = []
    for part in inside_out(test):
        told = taken_off(stack, part)
        if part[0] == "is":
            stack.append(both_spans(part, column, least))
        elif part[0] == "not":
            stack.append(told[0][::-1])
        else:
            common_ones = 0 if part[0] == "and" else 1
            pair = [[], []]
            pair[common_ones] = common_of_all([each[common_ones] for each in told])
            pair[1 - common_ones] = merged([span for each in told for span in each[1 - common_ones]])
            stack.append((pair[0], pair[1]))
    return stack[0][0]


def spans_for(kind, test, column):
    """The ascending list of the stretches (low, high) of a column of a kind for a test or None."""
    least = least_worth(kind)
    if test is None:
        return [(None, None)]
    return [(None if low == least else low, high) for low, high in spans_of_test(test, column, least)]


def is_within(spans, worth):
    """Whether a worth lies in one of some stretches."""
    return any([(low is None or worth >= low) and (high is None or worth < high) for low, high in spans])
