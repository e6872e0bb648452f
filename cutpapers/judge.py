"""The judge, who takes a paper for an answer only if it shows that the answer is right."""

from cutpapers.joint import parts
from cutpapers.sentences import fulfils, holds, kind
from cutpapers.sums import gains
from cutpapers.texts import is_integer

# The names of the papers that can show an answer to a question.
PAPERS = {
    ("some", True): ("cut",),
    ("some", False): ("wall", "flow", "closed"),
    ("every", True): ("stretches", "closed"),
    ("every", False): ("path",),
}


def takes(order, question, sentence, answer, paper):
    """Returns whether the paper shows the answer to the question about the sentence."""
    # Nothing in the paper is compared before its class is known: a comparison
    # of an unknown class could raise an error.
    if not _is_row(paper, 2) or type(paper[0]) is not str:
        return False
    # As a key, 1 would be the same as True.
    if answer is not True and answer is not False:
        return False
    name, told = paper
    if name not in PAPERS.get((question, answer), ()) or type(told) is not tuple:
        return False
    if name == "cut":
        return order.is_cut(told) and holds(order, told, sentence)
    if name == "wall":
        return kind(sentence) == "joint" and _leads_beyond(order, sentence, told)
    if name == "flow":
        return kind(sentence) == "sum" and _is_flow(order, sentence, told)
    if name == "stretches":
        return kind(sentence) == "joint" and _are_stretches(order, sentence, told)
    if name == "closed":
        return _is_closed(order, question, sentence, told)
    return _is_path(order, sentence, told)


def _is_row(value, length):
    return type(value) is tuple and len(value) == length


def _leads_beyond(order, sentence, rows):
    """Returns whether the rows of a wall lead the lower bound beyond the events of a process, by the last row only."""
    limbs = parts(order, sentence)
    low = {process: 0 for process in limbs}
    beyond = False
    for row in rows:
        if beyond or not _applies(order, limbs, low, row):
            return False
        raised = row[1]
        low[raised] += 1
        beyond = low[raised] > order.size(raised)
    return beyond


def _applies(order, limbs, low, row):
    """Returns whether the row applies to a lower bound that is nowhere beyond the events."""
    if _is_row(row, 2):
        if not _is_named(row, "false", low):
            return False
        return not fulfils(order, row[1], low[row[1]], limbs[row[1]])
    if _is_row(row, 3):
        if not _is_named(row, "needs", low):
            return False
        # A number of the clock is greater just if the next event is before that event.
        return order.before(row[1], low[row[1]] + 1, row[2], low[row[2]])
    return False


def _is_named(row, name, processes):
    """Returns whether the row begins with the name, and goes on with some of the processes."""
    if type(row[0]) is not str or row[0] != name:
        return False
    return all([type(process) is int and process in processes for process in row[1:]])


def _is_flow(order, sentence, rows):
    """Returns whether the rows are a flow, such that what it leaves of the gains is below the bound."""
    _, terms, bound = sentence
    changing = gains(order, terms)
    # How much the events have left when the rows so far are taken away.
    wins = {(process, event): gain for process, event, gain in changing if gain > 0}
    losses = {(process, event): -gain for process, event, gain in changing if gain < 0}
    seen = set()
    for row in rows:
        if not _can_flow(order, wins, losses, row) or row[:4] in seen:
            return False
        seen.add(row[:4])
        wins[row[:2]] -= row[4]
        losses[row[2:4]] -= row[4]
    return sum(wins.values()) < bound


def _can_flow(order, wins, losses, row):
    """Returns whether so much can flow from the winning event of the row to its losing one."""
    if not _is_row(row, 5) or not all([type(number) is int for number in row]):
        return False
    winner = row[:2]
    loser = row[2:4]
    if winner not in wins or loser not in losses:
        return False
    if not order.before(loser[0], loser[1], winner[0], winner[1]):
        return False
    return 1 <= row[4] <= min(wins[winner], losses[loser])


def _is_closed(order, question, sentence, cuts):
    """Returns whether nothing leads out of the cuts, none of which fulfils the sentence."""
    if not all([order.is_cut(cut) for cut in cuts]):
        return False
    inside = {cut: True for cut in cuts}
    if any([holds(order, cut, sentence) for cut in inside]):
        return False
    if question == "every" and order.whole() in inside:
        return False
    reached = [order.empty()]
    for cut in inside:
        reached.extend([order.added(cut, process) for process in order.ups(cut)])
    outside = [cut for cut in reached if cut not in inside]
    # For "some", nothing may be outside, not even what fulfils the sentence.
    return not outside or (question == "every" and all([holds(order, cut, sentence) for cut in outside]))


def _are_stretches(order, sentence, rows):
    """Returns whether the rows are stretches such that every observation passes all of them at once."""
    if len(rows) != order.count():
        return False
    limbs = parts(order, sentence)
    # A process that the run does not have counts as one without events.
    ends = {process: (0, 0) for process in limbs}
    for process, row in enumerate(rows):
        ends[process] = row
    if not all([_is_stretch(order, process, limbs[process], row) for process, row in ends.items()]):
        return False
    for process, (first, _) in ends.items():
        for other, (_, last) in ends.items():
            if process == other or first == 0 or last == order.size(other):
                continue
            if not order.before(process, first, other, last + 1):
                return False
    return True


def _is_stretch(order, process, limbs, row):
    """Returns whether the row is a pair such that the states with so many events fulfil the part of the process."""
    if not _is_row(row, 2) or not is_integer(row[1], 0, order.size(process)) or not is_integer(row[0], 0, row[1]):
        return False
    return all([fulfils(order, process, events, limbs) for events in range(row[0], row[1] + 1)])


def _is_path(order, sentence, moves):
    """Returns whether the moves are an observation that avoids the sentence."""
    if len(moves) != sum(order.whole()):
        return False
    cut = order.empty()
    if holds(order, cut, sentence):
        return False
    for process in moves:
        if type(process) is not int or process not in order.ups(cut):
            return False
        cut = order.added(cut, process)
        if holds(order, cut, sentence):
            return False
    return True
