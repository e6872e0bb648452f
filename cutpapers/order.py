"""The order of the events of a run, and its cuts."""

from cutpapers.errors import BadRun, TooMany
from cutpapers.forms import VARIABLES, is_run, one_row
from cutpapers.texts import is_integer


class Order:
    """The order of a run.

    For numbers that go beyond a row, clock and state answer as for its nearest
    end. A process that the run does not have counts as one without events.
    """

    def __init__(self, run):
        if not is_run(run):
            raise BadRun()
        self._run = run
        # The keys of these dicts are pairs (process, number of the event). The
        # event 0 is no key: what holds for it is the same in each process.
        self._sends = _sends_of(run)
        self._clocks = _clocks_of(run, self._sends)
        self._states = _states_of(run)
        self._balances = _balances_of(run)

    def count(self):
        """Returns the number of processes."""
        return len(self._run)

    def size(self, process):
        """Returns the number of events of the process."""
        return len(self._run[process]) if 0 <= process < len(self._run) else 0

    def clock(self, process, event):
        """Returns the clock of the event of the process."""
        return self._clocks.get(self._last(process, event), self.empty())

    def before(self, process, event, other, later):
        """Returns whether the event of the process is before the later event of the other one."""
        if not self._has(process, event) or not self._has(other, later):
            return False
        # The clock of an event counts the event itself, which is not before itself.
        return (process, event) != (other, later) and event <= self.clock(other, later)[process]

    def empty(self):
        """Returns the empty cut."""
        return tuple([0] * len(self._run))

    def whole(self):
        """Returns the whole cut."""
        return tuple([len(row) for row in self._run])

    def is_cut(self, value):
        """Returns whether the value is a cut."""
        if type(value) is not tuple or len(value) != len(self._run):
            return False
        for process, number in enumerate(value):
            if not is_integer(number, 0, self.size(process)):
                return False
        return all([_fits(self.clock(process, number), value) for process, number in enumerate(value)])

    def ups(self, cut):
        """Returns the list of the processes whose next event can be added to the cut."""
        return [process for process, number in enumerate(cut) if self._can_come(process, number + 1, cut)]

    def added(self, cut, process):
        """Returns the cut with one more event of the process."""
        return tuple([number + 1 if place == process else number for place, number in enumerate(cut)])

    def state(self, process, events):
        """Returns the state of the process after so many of its events."""
        return self._states.get(self._last(process, events), (0, 0, 0, 0))

    def under_way(self, cut):
        """Returns the number of letters under way at the cut."""
        # A cut has the send of each letter that is taken in it. So the takes
        # in it are as many as the letters that are no longer under way.
        return sum([self._balances.get(self._last(process, number), 0) for process, number in enumerate(cut)])

    def cuts(self, most):
        """Returns the list of all cuts, by size and then in ascending order."""
        found = []
        level = [self.empty()]
        while level:
            found.extend(level)
            if len(found) > most:
                raise TooMany()
            level = self._next_level(level)
        return found

    def _next_level(self, level):
        """Returns the sorted list of the cuts with one event more than those of the level."""
        found = set()
        for cut in level:
            for process in self.ups(cut):
                found.add(self.added(cut, process))
        return sorted(found)

    def _can_come(self, process, event, cut):
        """Returns whether the event, the first of its process beyond the cut, can be added to it."""
        if not self._has(process, event):
            return False
        # All that is before the event is in the cut if the event before it in
        # its process is, and, if it takes a letter, the send of the letter.
        if (process, event) not in self._sends:
            return True
        sender, sending = self._sends[(process, event)]
        return sending <= cut[sender]

    def _has(self, process, event):
        return 1 <= event <= self.size(process)

    def _last(self, process, event):
        return (process, min(event, self.size(process)))


def _fits(clock, cut):
    return all([needed <= number for needed, number in zip(clock, cut)])


def _sends_of(run):
    """Returns a dict from the place of each take to the place of its send."""
    sent = {}
    sends = {}
    for process, number in one_row(run):
        event = run[process][number - 1]
        if event[0] == "send":
            sent[event[1]] = (process, number)
        elif event[0] == "take":
            sends[(process, number)] = sent[event[1]]
    return sends


def _clocks_of(run, sends):
    """Returns a dict from the place of each event to its clock."""
    clocks = {}
    nothing = tuple([0] * len(run))
    for process, number in one_row(run):
        clock = clocks.get((process, number - 1), nothing)
        if (process, number) in sends:
            sent = clocks[sends[(process, number)]]
            clock = tuple([max(one, other) for one, other in zip(clock, sent)])
        clocks[(process, number)] = clock[:process] + (number,) + clock[process + 1:]
    return clocks


def _states_of(run):
    """Returns a dict from the place of each event to the state of its process after it."""
    states = {}
    for process, row in enumerate(run):
        values = [0] * len(VARIABLES)
        for number, event in enumerate(row, start=1):
            for variable, value in event[-1]:
                values[VARIABLES.index(variable)] = value
            states[(process, number)] = tuple(values)
    return states


def _balances_of(run):
    """Returns a dict from the place of each event to the sends less the takes of its process up to it."""
    balances = {}
    for process, row in enumerate(run):
        balance = 0
        for number, event in enumerate(row, start=1):
            if event[0] == "send":
                balance += 1
            elif event[0] == "take":
                balance -= 1
            balances[(process, number)] = balance
    return balances
