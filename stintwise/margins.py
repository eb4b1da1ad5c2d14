"""The price that shows a sharing to be a cheapest one."""

from stintwise.shares import outputs_cost, share_cost


def margin_price(machines, want, lack):
    """The least price at which price times want less all gains is the share_cost."""
    if want == 0:
        return 0
    return share_cost(machines, want, lack) - share_cost(machines, want - 1, lack)


def can_make(machines, outputs):
    """Whether there is an output for each machine, from its least to its most."""
    if len(outputs) != len(machines):
        return False
    return all([machine.least <= output <= machine.most() for machine, output in zip(machines, outputs)])


def shows_share(machines, want, lack, outputs, price):
    """Whether the price shows that the outputs are a cheapest sharing."""
    if not can_make(machines, outputs) or price < 0 or price > lack:
        return False
    gains = sum([machine.gain(price) for machine in machines])
    return outputs_cost(machines, want, lack, outputs) == price * want - gains
