"""Sentences at a cut, and the parts of joint sentences."""

from cutpapers.forms import VARIABLES


def holds(order, cut, sentence):
    """Returns whether the cut fulfils the sentence."""
    word = sentence[0]
    if word == "at":
        return _value(order, cut, sentence[1], sentence[2]) >= sentence[3]
    if word == "way":
        return order.under_way(cut) >= sentence[1]
    if word == "sum":
        return _total(order, cut, sentence[1]) >= sentence[2]
    if word == "not":
        return not holds(order, cut, sentence[1])
    if word == "and":
        return holds(order, cut, sentence[1]) and holds(order, cut, sentence[2])
    return holds(order, cut, sentence[1]) or holds(order, cut, sentence[2])


def kind(sentence):
    """Returns the kind of the sentence: "joint", "sum" or "free"."""
    if all([_is_about_one(limb) for limb in _limbs(sentence)]):
        return "joint"
    return "sum" if sentence[0] == "sum" else "free"


def part(sentence, process):
    """Returns the part of the process in the joint sentence."""
    return [limb for limb in _limbs(sentence) if process in speakers(limb)]


def fulfils(order, process, events, limbs):
    """Returns whether the state of the process after so many events fulfils all the limbs."""
    # The limbs look at no other process, so it doesn't matter that the numbers
    # of the others are those of no cut.
    numbers = tuple([events if place == process else 0 for place in range(order.count())])
    return all([holds(order, numbers, limb) for limb in limbs])


def reached(cut, process):
    """Returns how many events of the process the cut has."""
    # A process that the run does not have counts as one without events.
    return cut[process] if 0 <= process < len(cut) else 0


def speakers(sentence):
    """Returns the process of each `at` in the sentence, and None for each `way` and each `sum`."""
    if sentence[0] == "at":
        return [sentence[1]]
    if sentence[0] in ("way", "sum"):
        return [None]
    found = []
    for inner in sentence[1:]:
        found.extend(speakers(inner))
    return found


def _value(order, cut, process, variable):
    return order.state(process, reached(cut, process))[VARIABLES.index(variable)]


def _total(order, cut, terms):
    return sum([weight * _value(order, cut, process, variable) for weight, process, variable in terms])


def _limbs(sentence):
    if sentence[0] == "and":
        return _limbs(sentence[1]) + _limbs(sentence[2])
    return [sentence]


def _is_about_one(limb):
    """Returns whether the limb speaks about one process, and about nothing else."""
    found = speakers(limb)
    return None not in found and len(set(found)) == 1
