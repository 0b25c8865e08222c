"""Keys, things, states and writes: what of any object is one, the order of keys, and looks at states."""

from weavestore.kinds import LETTERS, MOST_LETTERS, is_count_below, is_word

BEHIND_COUNTS = 1000000
MOST_IN_KEY = 4
MOST_IN_THING = 6


def is_worth(value):
    """Whether any object is a word, or a count that may stand in a key."""
    return is_word(value) or is_count_below(value, BEHIND_COUNTS)


def is_key(value):
    """Whether any object is a key."""
    if not isinstance(value, tuple) or not 1 <= len(value) <= MOST_IN_KEY:
        return False
    return all([is_worth(part) for part in value])


def is_thing(value):
    """Whether any object is a thing."""
    if not isinstance(value, tuple) or len(value) > MOST_IN_THING:
        return False
    return all([is_worth(part) for part in value])


def may_be_written(value):
    """Whether any object is a thing, or None for a key that is dropped."""
    return value is None or is_thing(value)


def is_state(value):
    """Whether any object is a dictionary from keys to things."""
    if not isinstance(value, dict) or not all([is_key(key) for key in value]):
        return False
    return all([is_thing(thing) for thing in value.values()])


def are_writes(value):
    """Whether any object is a dictionary from keys to things or None."""
    if not isinstance(value, dict) or not all([is_key(key) for key in value]):
        return False
    return all([may_be_written(thing) for thing in value.values()])


def key_order(key):
    """What tells the order of keys: counts stand ahead of words, a beginning ahead of what goes on."""
    return [(isinstance(part, str), part) for part in key]


def ascending(keys):
    """The ascending list of keys."""
    return sorted(keys, key=key_order)


def by_keys(table):
    """The dictionary with its keys ascending."""
    return {key: table[key] for key in ascending(table)}


def with_writes(state, writes):
    """The state, keys ascending, with writes laid over it."""
    late = {**state, **writes}
    return {key: late[key] for key in ascending(late) if late[key] is not None}


def between_in(state, low, high):
    """The ascending list of the tuples (key, thing) from one key on and below another one."""
    least, bound = key_order(low), key_order(high)
    return [(key, state[key]) for key in ascending(state) if least <= key_order(key) < bound]


def first_in(state, low):
    """The first tuple (key, thing) at or behind a key, None if there is none."""
    least = key_order(low)
    late = [key for key in state if key_order(key) >= least]
    if not late:
        return None
    key = min(late, key=key_order)
    return (key, state[key])


def word_behind(word):
    """The least word that is greater than one, None if there is none."""
    if len(word) < MOST_LETTERS:
        return word + LETTERS[0]
    kept = word.rstrip(LETTERS[-1])
    if not kept:
        return None
    return kept[:-1] + LETTERS[LETTERS.index(kept[-1]) + 1]


def worth_behind(worth):
    """The least worth of the same kind that is greater than one, None if there is none."""
    if isinstance(worth, str):
        return word_behind(worth)
    if worth + 1 == BEHIND_COUNTS:
        return None
    return worth + 1
