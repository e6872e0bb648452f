"""A watcher, who is told the events of a run in any order."""

from cutpapers.errors import BadRun, BadSentence
from cutpapers.forms import is_event, is_sentence, letters_once, one_row
from cutpapers.limits import MOST_EVENTS, MOST_PROCESSES
from cutpapers.order import Order
from cutpapers.tell import tell
from cutpapers.texts import is_integer


class Watcher:
    """A watcher of the processes 0 to count - 1.

    It answers for the part of the run that it knows without a gap.
    """

    def __init__(self, count):
        if not is_integer(count, 1, MOST_PROCESSES):
            raise BadRun()
        self._count = count
        # From the places of the fed events, pairs (process, index), to the events.
        self._fed = {}

    def feed(self, process, index, event):
        """Tells that the event with this index of the process is this one."""
        if not is_integer(process, 0, self._count - 1) or not is_integer(index, 1, MOST_EVENTS):
            raise BadRun()
        if not is_event(event):
            raise BadRun()
        place = (process, index)
        if place not in self._fed:
            self._add(place, event)
        elif self._fed[place] != event:
            raise BadRun()

    def known(self):
        """Returns the known run."""
        rows = []
        for process in range(self._count):
            row = []
            while (process, len(row) + 1) in self._fed:
                row.append(self._fed[(process, len(row) + 1)])
            rows.append(row)
        # A take whose send is not known, and all that is behind it, is in no
        # run that consists of beginnings of these rows.
        many = [0] * self._count
        for process, number in one_row(rows):
            many[process] = number
        return tuple([tuple(row[:number]) for row, number in zip(rows, many)])

    def waiting(self):
        """Returns the list of the places of the fed events that are not in the known run."""
        known = self.known()
        return [place for place in sorted(self._fed) if place[1] > len(known[place[0]])]

    def some(self, sentence, most):
        """Returns the answer whether some cut of the known run fulfils the sentence, and a paper for it."""
        if not is_sentence(self._count, sentence):
            raise BadSentence()
        return tell(Order(self.known()), "some", sentence, most)

    def _add(self, place, event):
        """Adds an event for a place for which none was fed, if it fits the fed ones."""
        fed = {other: self._fed[other] for other in self._fed}
        fed[place] = event
        if not letters_once([list(fed.values())]) or not _is_possible(self._count, fed):
            raise BadRun()
        self._fed = fed


def _is_possible(count, fed):
    """Returns whether the events, a dict from their places, can be put into one row."""
    sent = {event[1]: True for event in fed.values() if event[0] == "send"}
    rows = [[] for _ in range(count)]
    for process, index in sorted(fed):
        event = fed[(process, index)]
        # A take whose send was not fed may stand anywhere in its row.
        if event[0] != "take" or event[1] in sent:
            rows[process].append(event)
    return len(one_row(rows)) == sum([len(row) for row in rows])
