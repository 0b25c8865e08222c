"""Questions, keys and answers without tables: what of any object is one, and which answers are the same."""

from weavestore.asking import is_asked
from weavestore.keys import is_key, is_thing
from weavestore.kinds import is_count, is_tuple_of
from weavestore.schemas import is_table_word


def is_plain_key(value):
    """Whether any object is a key that is no table key."""
    return is_key(value) and not is_table_word(value[0])


def is_plain_question(value):
    """Whether any object is a question, but for those of tables."""
    return is_asked(value) and value[0] != "find"


def is_pair(value):
    """Whether any object is a tuple of a key and a thing."""
    return is_tuple_of(value, 2) and is_key(value[0]) and is_thing(value[1])


def are_pairs(value):
    """Whether any object is a list of tuples of a key and a thing."""
    return isinstance(value, list) and all([is_pair(part) for part in value])


def is_answer_to(question, value):
    """Whether any object is an answer of the kind that a plain question has."""
    word = question[0]
    if word == "look":
        return value is None or is_thing(value)
    if word == "first":
        return value is None or is_pair(value)
    if word == "between":
        return are_pairs(value)
    if word == "many":
        return is_count(value)
    return isinstance(value, bool)


def is_answer(value):
    """Whether any object is an answer of any kind that plain questions have."""
    if value is None or isinstance(value, bool) or is_count(value):
        return True
    return is_thing(value) or is_pair(value) or are_pairs(value)


def is_same(one, other):
    """Whether two answers are the same; True and 1 are not."""
    return isinstance(one, bool) == isinstance(other, bool) and one == other
