"""Sharing out an hour's want among machines that all run."""


def pieces_by_rate(machines):
    """The pieces of all machines as tuples (rate, machine, place, amount), rising."""
    pieces = []
    for at, machine in enumerate(machines):
        for place, piece in enumerate(machine.pieces):
            pieces.append((piece[1], at, place, piece[0]))
    return sorted(pieces)


def share_out(machines, want, lack):
    """The tuple (outputs, waste, lacking) of a cheapest sharing."""
    outputs = [machine.least for machine in machines]
    wanted = want - sum(outputs)
    for rate, at, place, amount in pieces_by_rate(machines):
        # Where the leasts alone are too much, what is wanted lies below 0.
        if rate <= lack and wanted > 0:
            taken = min(amount, wanted)
            outputs[at] += taken
            wanted -= taken
    return (outputs, max(-wanted, 0), max(wanted, 0))


def outputs_cost(machines, want, lack, outputs):
    """What outputs that the machines can make cost, with what is lacking."""
    making = sum([machine.cost_at(output) for machine, output in zip(machines, outputs)])
    return making + lack * max(want - sum(outputs), 0)


def share_cost(machines, want, lack):
    """What a cheapest sharing costs."""
    shared = share_out(machines, want, lack)
    return outputs_cost(machines, want, lack, shared[0])
