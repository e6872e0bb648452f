"""Joint sentences: some cut, every observation."""

from cutpapers.sentences import fulfils, part, reached, speakers


def some_joint(order, sentence):
    """Returns the least cut that fulfils the joint sentence, or a wall."""
    truths = _truths(order, sentence)
    low = {process: 0 for process in truths}
    rows = []
    row = _next_row(order, truths, low)
    while row is not None:
        rows.append(row)
        raised = row[1]
        low[raised] += 1
        if low[raised] > order.size(raised):
            return ("wall", tuple(rows))
        row = _next_row(order, truths, low)
    return ("cut", tuple([low[process] for process in range(order.count())]))


def every_joint(order, sentence):
    """Returns a stretch of each process that no observation avoids, or an observation that avoids the sentence."""
    found = {process: stretches(order, process, limbs) for process, limbs in parts(order, sentence).items()}
    cut = order.empty()
    moves = []
    heads = _heads(found, cut)
    while heads is not None:
        target = _cut_ahead(order, heads, cut)
        if target is None:
            return ("stretches", tuple([heads[process] for process in range(order.count())]))
        moves.extend(moves_to(order, cut, target))
        cut = target
        heads = _heads(found, cut)
    moves.extend(moves_to(order, cut, order.whole()))
    return ("path", tuple(moves))


def stretches(order, process, limbs):
    """Returns the list of the stretches of the process, in ascending order."""
    found = []
    for events in range(order.size(process) + 1):
        if not fulfils(order, process, events, limbs):
            continue
        if found and found[-1][1] == events - 1:
            found[-1] = (found[-1][0], events)
        else:
            found.append((events, events))
    return found


def moves_to(order, cut, target):
    """Returns the list of the processes whose events lead from the cut to the target."""
    moves = []
    ups = _ups_to(order, cut, target)
    while ups:
        moves.append(ups[0])
        cut = order.added(cut, ups[0])
        ups = _ups_to(order, cut, target)
    return moves


def parts(order, sentence):
    """Returns a dict from each process, in ascending order, to its part."""
    # A sentence may speak about processes that the run does not have. They
    # count as processes without events.
    processes = sorted(set(list(range(order.count())) + speakers(sentence)))
    return {process: part(sentence, process) for process in processes}


def _ups_to(order, cut, target):
    return [process for process in order.ups(cut) if cut[process] < target[process]]


def _truths(order, sentence):
    """Returns a dict from each process to a list: after how many events its state fulfils its part."""
    truths = {}
    for process, limbs in parts(order, sentence).items():
        truths[process] = [fulfils(order, process, events, limbs) for events in range(order.size(process) + 1)]
    return truths


def _next_row(order, truths, low):
    """Returns the row that is to be applied to the lower bound, or None if none applies."""
    for process, number in low.items():
        if not truths[process][number]:
            return ("false", process)
    for process, number in low.items():
        for other, bound in low.items():
            # The clock of an event has a number greater than this one just if
            # the next event of the process is before that event.
            if order.before(process, number + 1, other, bound):
                return ("needs", process, other)
    return None


def _heads(found, cut):
    """Returns a dict from each process to its head, or None if a process has no head."""
    heads = {}
    for process, rows in found.items():
        # A stretch without an ending event is never left behind: its last
        # number is that of all events of the process.
        left = [row for row in rows if row[1] >= reached(cut, process)]
        if not left:
            return None
        heads[process] = left[0]
    return heads


def _cut_ahead(order, heads, cut):
    """Returns a cut to which the observation goes on while a process waits, or None if there is none."""
    for process, (first, _) in heads.items():
        # Only those that wait matter. If an event is in the cut, it is before
        # the beginning event of one that waits, so what holds for this holds for it.
        if first <= reached(cut, process):
            continue
        for other, (_, last) in heads.items():
            if other == process or last == order.size(other):
                continue
            if not order.before(process, first, other, last + 1):
                clock = order.clock(other, last + 1)
                return tuple([max(number, needed) for number, needed in zip(cut, clock)])
    return None
