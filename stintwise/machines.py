"""Machines: what they may be, and what they make at what cost."""

from stintwise.errors import Wrong
from stintwise.wholes import is_amount, is_whole

LONGEST_STINT = 12
MOST_PIECES = 4


def is_span(thing):
    """Whether the thing is a number of hours that a stint may be held to."""
    return is_whole(thing) and 1 <= thing <= LONGEST_STINT


def is_piece(thing):
    """Whether the thing is a tuple (amount, rate), with an amount from 1 on."""
    if not isinstance(thing, tuple) or len(thing) != 2:
        return False
    return is_amount(thing[0]) and thing[0] >= 1 and is_amount(thing[1])


def are_pieces(thing):
    """Whether the thing is a list of pieces that a machine may have."""
    if not isinstance(thing, list) or len(thing) > MOST_PIECES:
        return False
    if not all([is_piece(piece) for piece in thing]):
        return False
    return all([thing[at - 1][1] <= thing[at][1] for at in range(1, len(thing))])


class Machine:
    """A machine; it never changes, and its fields are for reading."""

    def __init__(self, up, down, begin, run, rest, least, pieces):
        spans = [is_span(up), is_span(down)]
        costs = [is_amount(begin), is_amount(run), is_amount(rest), is_amount(least)]
        for at, fits in enumerate(spans + costs + [are_pieces(pieces)]):
            if not fits:
                raise Wrong(at)
        self.up = up
        self.down = down
        self.begin = begin
        self.run = run
        self.rest = rest
        self.least = least
        self.pieces = list(pieces)

    def most(self):
        """The greatest output in an hour."""
        return self.least + sum([piece[0] for piece in self.pieces])

    def cost_at(self, output):
        """What making so much costs in an hour, or None where it can't be made."""
        if output < self.least or output > self.most():
            return None
        wanted = output - self.least
        cost = 0
        for amount, rate in self.pieces:
            taken = min(amount, wanted)
            cost += taken * rate
            wanted -= taken
        return cost

    def gain(self, price):
        """The greatest that price times output less its cost comes to."""
        worth = price * self.least
        for amount, rate in self.pieces:
            # A piece that costs more than the price is better left alone.
            worth += amount * max(price - rate, 0)
        return worth

    def best_at(self, price):
        """The least and the greatest output that come to the gain."""
        below = sum([piece[0] for piece in self.pieces if piece[1] < price])
        # Making what costs just the price neither adds to the gain nor takes from it.
        alike = sum([piece[0] for piece in self.pieces if piece[1] == price])
        return (self.least + below, self.least + below + alike)
