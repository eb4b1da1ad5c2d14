"""Stores: what they may be, and how their levels go."""

from stintwise.errors import Wrong
from stintwise.wholes import is_amount, is_whole

MOST_LEVELS = 8


def is_depth(thing):
    """Whether the thing is a number of levels that a store may have or go."""
    return is_whole(thing) and 0 <= thing <= MOST_LEVELS


class Store:
    """A store; it never changes, and its fields are for reading."""

    def __init__(self, cap, into, out, takes, gives):
        depths = [is_depth(cap), is_depth(into), is_depth(out)]
        for at, fits in enumerate(depths + [is_amount(takes), is_amount(gives)]):
            if not fits:
                raise Wrong(at)
        self.cap = cap
        self.into = into
        self.out = out
        self.takes = takes
        self.gives = gives


def levels_after(store, level, hours):
    """The rising list of the levels that there can be behind just so many hours."""
    # As the level may also stay, and go by less than it could, none between the two ends is left out.
    lowest = max(level - store.out * hours, 0)
    highest = min(level + store.into * hours, store.cap)
    return list(range(lowest, highest + 1))


def levels_from(store, level):
    """The rising list of the levels that there can be behind an hour."""
    return levels_after(store, level, 1)


def drawn_by(store, level, later):
    """The amount that the store takes in from the one level to the other, below 0 where it gives out."""
    each = store.takes if later > level else store.gives
    return each * (later - level)
