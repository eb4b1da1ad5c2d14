"""What counts as a whole number and as an amount."""


def is_whole(thing):
    """Whether the thing is a whole number."""
    # Python counts True and False among the ints; here they are none.
    return isinstance(thing, int) and not isinstance(thing, bool)


def is_amount(thing):
    """Whether the thing is a whole number from 0 to 10 ** 12."""
    return is_whole(thing) and 0 <= thing <= 10 ** 12
