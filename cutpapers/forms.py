"""Runs and sentences: which values have their form."""

from cutpapers.limits import MOST_BOUND, MOST_EVENTS, MOST_LETTER, MOST_NESTING
from cutpapers.limits import MOST_PROCESSES, MOST_TERMS, MOST_VALUE, MOST_WEIGHT
from cutpapers.texts import is_integer

VARIABLES = ("a", "b", "c", "d")


def is_event(value):
    """Returns whether the value is an event."""
    if not _is_named(value):
        return False
    if value[0] == "step":
        return len(value) == 2 and _are_changes(value[1])
    if value[0] not in ("send", "take") or len(value) != 3:
        return False
    return is_integer(value[1], 1, MOST_LETTER) and _are_changes(value[2])


def is_run(value):
    """Returns whether the value is a run."""
    if not _is_row(value, 1, MOST_PROCESSES):
        return False
    if not all([_is_process(row) for row in value]):
        return False
    return letters_once(value) and len(one_row(value)) == sum([len(row) for row in value])


def is_sentence(count, value):
    """Returns whether the value is a sentence for so many processes."""
    return is_integer(count, 1, MOST_PROCESSES) and _is_nested(count, value, MOST_NESTING)


def one_row(run):
    """Returns pairs (process, number of the event): a row that the run can have gone.

    The rows of the run may have takes of letters that are not sent, or not
    before. The events that therefore can't come are missing in the row.
    """
    row = []
    sent = {}
    reached = [0] * len(run)
    earlier = -1
    while earlier < len(row):
        earlier = len(row)
        for process, events in enumerate(run):
            rest = events[reached[process]:]
            for event in rest:
                if event[0] == "take" and event[1] not in sent:
                    break
                if event[0] == "send":
                    sent[event[1]] = True
                reached[process] += 1
                row.append((process, reached[process]))
    return row


def letters_once(rows):
    """Returns whether the events in the rows send no letter twice, and take none twice."""
    seen = set()
    many = 0
    for row in rows:
        for event in row:
            if event[0] != "step":
                seen.add(event[:2])
                many += 1
    return len(seen) == many


def _is_row(value, least, greatest):
    return type(value) is tuple and least <= len(value) <= greatest


def _is_named(value):
    # Before an item of an unknown class is compared with a name, it must be
    # sure to be a string: a comparison of its own could raise an error.
    return type(value) is tuple and len(value) > 0 and type(value[0]) is str


def _is_variable(value):
    return type(value) is str and value in VARIABLES


def _are_changes(value):
    if not _is_row(value, 0, len(VARIABLES)):
        return False
    if not all([_is_change(change) for change in value]):
        return False
    return all([value[at - 1][0] < value[at][0] for at in range(1, len(value))])


def _is_change(value):
    if not _is_row(value, 2, 2):
        return False
    return _is_variable(value[0]) and is_integer(value[1], -MOST_VALUE, MOST_VALUE)


def _is_process(value):
    return _is_row(value, 0, MOST_EVENTS) and all([is_event(event) for event in value])


def _is_nested(count, value, depth):
    """Returns whether the value is a sentence of at most this nesting depth."""
    if depth == 0 or not _is_named(value):
        return False
    if value[0] == "not":
        return len(value) == 2 and _is_nested(count, value[1], depth - 1)
    if value[0] in ("and", "or"):
        return len(value) == 3 and all([_is_nested(count, part, depth - 1) for part in value[1:]])
    return _is_plain(count, value)


def _is_plain(count, value):
    """Returns whether the value, which has a name, is a sentence without sentences in it."""
    if value[0] == "at":
        return len(value) == 4 and _is_place(count, value[1], value[2]) and _is_bound(value[3])
    if value[0] == "way":
        return len(value) == 2 and is_integer(value[1], 0, MOST_LETTER)
    if value[0] == "sum":
        return len(value) == 3 and _are_terms(count, value[1]) and _is_bound(value[2])
    return False


def _is_place(count, process, variable):
    return is_integer(process, 0, count - 1) and _is_variable(variable)


def _is_bound(value):
    return is_integer(value, -MOST_BOUND, MOST_BOUND)


def _are_terms(count, value):
    return _is_row(value, 1, MOST_TERMS) and all([_is_term(count, term) for term in value])


def _is_term(count, value):
    if not _is_row(value, 3, 3) or not is_integer(value[0], -MOST_WEIGHT, MOST_WEIGHT):
        return False
    return _is_place(count, value[1], value[2])
