"""Errors for arguments of kinds that several modules share."""

from weavestore.errors import InvalidCount
from weavestore.kinds import is_count


def need_count(number):
    """Raises InvalidCount unless it is a count."""
    if not is_count(number):
        raise InvalidCount(number)


def need_changed_and_unread(changed, unread):
    """Raises InvalidCount for the first one that is no count."""
    need_count(changed)
    need_count(unread)
