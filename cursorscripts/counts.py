"""What counts may be."""

from cursorscripts.errors import InvalidCount


def need_count(thing, least, most):
    """Raises InvalidCount if thing is not an integer from least to most."""
    if not isinstance(thing, int) or isinstance(thing, bool) or not least <= thing <= most:
        raise InvalidCount(thing)
