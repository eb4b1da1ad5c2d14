"""Prices put hour by hour so that the bound by them is greatest."""

from stintwise.bounds import price_bound
from stintwise.more7 import lones_of


def bound_at(want, by_drawn, price):
    """The bound where the hour has this price, but for what the other hours want: of each the least of its worths."""
    bound = price * want
    for worths in by_drawn:
        bound += min([worth + drawn * price for drawn, worth in worths.items()])
    return bound


def least_best(lack, want, by_drawn):
    """The least price from 0 to lack at which the bound is greatest."""
    # The least of straight lines bends downward alone, and so does a sum of such: where the bound rises no more
    # from one price to the next, it rises nowhere behind.
    low = 0
    high = lack
    while low < high:
        middle = (low + high) // 2
        if bound_at(want, by_drawn, middle + 1) > bound_at(want, by_drawn, middle):
            low = middle + 1
        else:
            high = middle
    return low


def best_price(works, want, lones, heads, tails):
    """The price of an hour, by the least worths up to it and from behind it on, of each machine and the store."""
    by_drawn = [lone.worths_by_drawn(head, tail) for lone, head, tail in zip(lones, heads, tails)]
    return least_best(works.lack, want, by_drawn)


def heads_behind(lones, heads, price):
    """The dicts of the least worths up to an hour, for one hour more."""
    return [lone.worths_behind(head, price) for lone, head in zip(lones, heads)]


def raised_price(works, position, wants, prices, hour):
    """The least price for the hour at which, the other prices as they are, the bound is greatest."""
    lones = lones_of(works, position, len(wants))
    heads = [lone.worths_at_first() for lone in lones]
    for price in prices[:hour]:
        heads = heads_behind(lones, heads, price)
    tails = [lone.worths_to_end(prices)[hour + 1] for lone in lones]
    return best_price(works, wants[hour], lones, heads, tails)


def raised_once(works, lones, wants, prices):
    """The prices behind a round."""
    # The hours behind one keep their former prices until the round comes to them: one walk from the end is enough.
    ends = [lone.worths_to_end(prices) for lone in lones]
    heads = [lone.worths_at_first() for lone in lones]
    raised = []
    for hour, want in enumerate(wants):
        price = best_price(works, want, lones, heads, [worths[hour + 1] for worths in ends])
        heads = heads_behind(lones, heads, price)
        raised.append(price)
    return raised


def climbed(works, position, wants, prices, rounds):
    """The tuple (prices, bound, still) behind at most so many rounds."""
    lones = lones_of(works, position, len(wants))
    prices = list(prices)
    still = False
    while rounds > 0 and not still:
        raised = raised_once(works, lones, wants, prices)
        still = raised == prices
        prices = raised
        rounds -= 1
    return (prices, price_bound(works, position, wants, prices), still)
