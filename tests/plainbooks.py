"""The tests' own looks at keys, things and books, told word by word as the document does."""

import functools


def is_word(value):
    return type(value) is str and 1 <= len(value) <= 8 and all("a" <= sign <= "z" for sign in value)


def is_part(value):
    return is_word(value) or type(value) is int and 0 <= value <= 999999


def is_key(value):
    return type(value) is tuple and 1 <= len(value) <= 4 and all(is_part(part) for part in value)


def is_thing(value):
    return type(value) is tuple and len(value) <= 6 and all(is_part(part) for part in value)


def is_state(value):
    return type(value) is dict and all(is_key(key) and is_thing(value[key]) for key in value)


def are_writes(value):
    return type(value) is dict and all(is_key(key) and (value[key] is None or is_thing(value[key])) for key in value)


def is_version(value):
    if type(value) is not tuple or len(value) != 2 or type(value[0]) is not int or value[0] < 1:
        return False
    return value[1] is None or is_thing(value[1])


def are_rows(value):
    if type(value) is not dict or not all(is_key(key) for key in value):
        return False
    for versions in value.values():
        if type(versions) is not list or not versions or not all(is_version(version) for version in versions):
            return False
        if any(versions[at - 1][0] >= versions[at][0] for at in range(1, len(versions))):
            return False
    return True


def compare(one, other):
    """-1, 0 or 1: keys place by place, counts ahead of words, a beginning ahead of what goes on."""
    for left, right in zip(one, other):
        if type(left) is not type(right):
            return -1 if type(left) is int else 1
        if left != right:
            return -1 if left < right else 1
    return (len(one) > len(other)) - (len(one) < len(other))


def in_order(keys):
    return sorted(keys, key=functools.cmp_to_key(compare))


def lies_between(low, key, high):
    return compare(low, key) <= 0 and compare(key, high) < 0


def plain_seen(rows, commit):
    """The dictionary from the keys to the versions that a commit sees."""
    found = {}
    for key in in_order(rows):
        for version in rows[key]:
            if version[0] <= commit:
                found[key] = version
    return found


def plain_state(rows, commit):
    return {key: version[1] for key, version in plain_seen(rows, commit).items() if version[1] is not None}


def some_rows(chance, keys, commits):
    """The rows of a book by chance: of some keys, with versions of some of the commits."""
    rows = {}
    for key in keys:
        numbers = [number for number in range(1, commits + 1) if chance.random() < 0.45]
        if numbers:
            rows[key] = [(number, chance.choice([None, (), (number,), ("a", number), ("a",)])) for number in numbers]
    return rows
