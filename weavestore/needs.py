"""Errors for arguments of kinds that several modules share."""

from weavestore.errors import InvalidCount, InvalidKey, InvalidState
from weavestore.keys import is_key, is_state
from weavestore.kinds import is_count, is_count_from_one


def need_count(number):
    """Raises InvalidCount unless it is a count."""
    if not is_count(number):
        raise InvalidCount(number)


def need_count_from_one(number):
    """Raises InvalidCount unless it is a count of at least 1."""
    if not is_count_from_one(number):
        raise InvalidCount(number)


def need_changed_and_unread(changed, unread):
    """Raises InvalidCount for the first one that is no count."""
    need_count(changed)
    need_count(unread)


def need_key(key):
    """Raises InvalidKey unless it is a key."""
    if not is_key(key):
        raise InvalidKey(key)


def need_state(state):
    """Raises InvalidState unless it is a dictionary from keys to things."""
    if not is_state(state):
        raise InvalidState(state)
