"""Sums: the greatest sum of all cuts, or a flow that shows that it is below the bound."""

from cutpapers.flows import Flow
from cutpapers.forms import VARIABLES


def gains(order, terms):
    """Returns the list of the tuples (process, event, gain) of the events with a gain other than 0."""
    found = []
    for process in range(order.count()):
        for event in range(1, order.size(process) + 1):
            gain = _gain(order, terms, process, event)
            if gain != 0:
                found.append((process, event, gain))
    return found


def some_sum(order, sentence):
    """Returns a cut with the greatest sum if it is at least the bound, otherwise a flow."""
    _, terms, bound = sentence
    changing = gains(order, terms)
    winners = [(process, event, gain) for process, event, gain in changing if gain > 0]
    losers = [(process, event, -gain) for process, event, gain in changing if gain < 0]
    flow = Flow([row[2] for row in winners], [row[2] for row in losers], _below(order, winners, losers))
    best = flow.fill()
    # What the winners could not give away is the greatest sum.
    if sum(flow.unspent) >= bound:
        return ("cut", _cut_with(order, [winners[at] for at in best]))
    return ("flow", tuple(_rows_of(flow, winners, losers)))


def _gain(order, terms, process, event):
    earlier = order.state(process, event - 1)
    later = order.state(process, event)
    gain = 0
    for weight, place, variable in terms:
        if place == process:
            at = VARIABLES.index(variable)
            gain += weight * (later[at] - earlier[at])
    return gain


def _below(order, winners, losers):
    """Returns for each winner the list of the places of the losers that are before it."""
    below = []
    for process, event, _ in winners:
        below.append([at for at, row in enumerate(losers) if order.before(row[0], row[1], process, event)])
    return below


def _cut_with(order, winners):
    """Returns the least cut that has the winners."""
    cut = order.empty()
    for process, event, _ in winners:
        cut = tuple([max(number, needed) for number, needed in zip(cut, order.clock(process, event))])
    return cut


def _rows_of(flow, winners, losers):
    """Returns the rows of the flow, in ascending order."""
    rows = []
    for at, amounts in enumerate(flow.amounts):
        for winner, amount in amounts.items():
            rows.append(winners[winner][:2] + losers[at][:2] + (amount,))
    return sorted(rows)
