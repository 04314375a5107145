"""What counts as an integer."""


def is_whole(thing):
    """True if the thing is an integer, otherwise False.

    Python counts True and False as integers; here they are none.
    """
    return isinstance(thing, int) and not isinstance(thing, bool)


def is_integer_in(thing, low, high):
    """True if the thing is an integer from low to high, otherwise False."""
    return is_whole(thing) and low <= thing <= high
