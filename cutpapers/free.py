"""Sentences of any kind: the answers by going through the cuts."""

from cutpapers.errors import TooMany
from cutpapers.sentences import holds


def some_free(order, sentence, most):
    """Returns the first cut that fulfils the sentence, or all cuts if none does."""
    cuts = order.cuts(most)
    for cut in cuts:
        if holds(order, cut, sentence):
            return ("cut", cut)
    return ("closed", tuple(cuts))


def every_free(order, sentence, most):
    """Returns an observation that avoids the sentence, or all avoiding cuts if there is no such observation."""
    found = _avoiding(order, sentence, most)
    if order.whole() in found:
        return ("path", _moves_to_the_end(order, found))
    return ("closed", tuple(found))


def _avoiding(order, sentence, most):
    """Returns a dict from each avoiding cut, by size and then in ascending order, to how it is reached.

    This is a pair of the avoiding cut before it and the process whose event
    is added to that one, or None for the empty cut.
    """
    found = {}
    level = {order.empty(): None}
    while level:
        following = {}
        for cut in sorted(level):
            if holds(order, cut, sentence):
                continue
            found[cut] = level[cut]
            for process in order.ups(cut):
                following[order.added(cut, process)] = (cut, process)
        if len(found) > most:
            raise TooMany()
        level = following
    return found


def _moves_to_the_end(order, found):
    """Returns the processes whose events lead from the empty cut to the whole one, by avoiding cuts only."""
    moves = []
    last = found[order.whole()]
    while last is not None:
        cut, process = last
        moves.append(process)
        last = found[cut]
    return tuple(reversed(moves))
