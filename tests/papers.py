"""The judge by the words of the document, slowly, and papers that are changed a little."""

from itertools import product

from tests.samples import places, slow_before, slow_cuts
from tests.searches import cuts_on_the_way, fulfilling, next_cuts, slow_holds, slow_sum

NAMES = ("cut", "wall", "flow", "closed", "stretches", "path")


def limbs_of(sentence):
    if sentence[0] == "and":
        return limbs_of(sentence[1]) + limbs_of(sentence[2])
    return [sentence]


def speaker(limb):
    return limb[1] if limb[0] == "at" else speaker(limb[1])


def words_in(sentence):
    """Yields the sentence and all sentences in it."""
    yield sentence
    if sentence[0] in ("not", "and", "or"):
        for inner in sentence[1:]:
            yield from words_in(inner)


def slow_kind(sentence):
    """Returns the kind of the sentence, by points 301 and 302."""
    for limb in limbs_of(sentence):
        plain = [inner for inner in words_in(limb) if inner[0] in ("at", "way", "sum")]
        if any(inner[0] != "at" for inner in plain) or len({inner[1] for inner in plain}) > 1:
            return "sum" if sentence[0] == "sum" else "free"
    return "joint"


def slow_fulfils(run, process, events, sentence):
    """Returns whether the state of the process after so many events fulfils its part of the sentence."""
    cut = tuple(events if place == process else 0 for place in range(len(run)))
    return all(slow_holds(run, cut, limb) for limb in limbs_of(sentence) if speaker(limb) == process)


def slow_clocks(run):
    """Returns a dict from the places of the events, the event 0 of each process included, to the clocks."""
    before = slow_before(run)
    clocks = {(process, 0): (0,) * len(run) for process in range(len(run))}
    for place in places(run):
        known = [one for one in places(run) if one == place or (one, place) in before]
        clocks[place] = tuple(len([one for one in known if one[0] == process]) for process in range(len(run)))
    return clocks


def rows_that_apply(run, clocks, sentence, low):
    """Returns the list of the rows that apply to the lower bound, by point 400, in the order of point 401."""
    rows = []
    for process, number in enumerate(low):
        if number <= len(run[process]) and not slow_fulfils(run, process, number, sentence):
            rows.append(("false", process))
    for process, other in product(range(len(run)), repeat=2):
        if low[other] <= len(run[other]) and clocks[(other, low[other])][process] > low[process]:
            rows.append(("needs", process, other))
    return rows


def no_observation_avoids(run, before, rows):
    """Returns whether the stretches are such as point 403 wants them."""
    for process, (first, _) in enumerate(rows):
        for other, (_, last) in enumerate(rows):
            if process != other and first > 0 and last < len(run[other]):
                if ((process, first), (other, last + 1)) not in before:
                    return False
    return True


def slow_gain(run, cuts, place, terms):
    """Returns the gain of the event, by a cut without it and the one with it."""
    process, number = place
    for cut in cuts:
        after = cut[:process] + (cut[process] + 1,) + cut[process + 1:]
        if after[process] == number and after in cuts:
            return slow_sum(run, after, terms) - slow_sum(run, cut, terms)


def slow_gains(run, terms):
    cuts = slow_cuts(run)
    found = [(process, event, slow_gain(run, cuts, (process, event), terms)) for process, event in places(run)]
    return sorted(row for row in found if row[2] != 0)


def has_form(value, form):
    """Returns whether the value is of this class, or a tuple of these forms, or of many of the one in a list."""
    if isinstance(form, type):
        return type(value) is form
    if type(value) is not tuple:
        return False
    if isinstance(form, list):
        return all(has_form(item, form[0]) for item in value)
    return len(value) == len(form) and all(has_form(*pair) for pair in zip(value, form))


class SlowJudge:
    """The judge for one run and one sentence, by the words of points 702 to 708."""

    def __init__(self, run, sentence):
        self.run = run
        self.sentence = sentence
        self.kind = slow_kind(sentence)
        cuts = slow_cuts(run)
        self.empty = cuts[0]
        self.whole = cuts[-1]
        self.after = {cut: next_cuts(cut, cuts) for cut in cuts}
        self.fulfilling = set(fulfilling(run, sentence))
        self.before = slow_before(run)
        self.clocks = slow_clocks(run)
        self.gains = slow_gains(run, sentence[1]) if sentence[0] == "sum" else []
        self.table = {
            ("some", True, "cut"): ([int], self.is_cut),
            ("some", False, "wall"): ([tuple], self.is_wall),
            ("some", False, "flow"): ([(int, int, int, int, int)], self.is_flow),
            ("some", False, "closed"): ([[int]], self.is_closed_for_some),
            ("every", True, "stretches"): ([(int, int)], self.are_stretches),
            ("every", True, "closed"): ([[int]], self.is_closed_for_every),
            ("every", False, "path"): ([int], self.is_path),
        }

    def takes(self, question, answer, paper):
        if type(answer) is not bool or type(paper) is not tuple or len(paper) != 2 or type(paper[0]) is not str:
            return False
        if (question, answer, paper[0]) not in self.table:
            return False
        form, judged = self.table[(question, answer, paper[0])]
        return has_form(paper[1], form) and judged(paper[1])

    def is_cut(self, cut):
        return cut in self.after and cut in self.fulfilling

    def are_other_cuts(self, cuts):
        """Returns whether all are cuts that do not fulfil the sentence."""
        return all(cut in self.after and cut not in self.fulfilling for cut in cuts)

    def is_wall(self, rows):
        low = [0] * len(self.run)
        for at, row in enumerate(rows):
            if self.kind != "joint" or not (has_form(row, (str, int)) or has_form(row, (str, int, int))):
                return False
            if row not in rows_that_apply(self.run, self.clocks, self.sentence, low):
                return False
            low[row[1]] += 1
            if any(number > len(events) for number, events in zip(low, self.run)) != (at == len(rows) - 1):
                return False
        return len(rows) > 0

    def is_flow(self, rows):
        wins = {(process, event): gain for process, event, gain in self.gains if gain > 0}
        losses = {(process, event): -gain for process, event, gain in self.gains if gain < 0}
        for row in rows:
            if row[:2] not in wins or row[2:4] not in losses or (row[2:4], row[:2]) not in self.before or row[4] < 1:
                return False
            if sum(other[4] for other in rows if other[:2] == row[:2]) > wins[row[:2]]:
                return False
            if sum(other[4] for other in rows if other[2:4] == row[2:4]) > losses[row[2:4]]:
                return False
        once = len({row[:4] for row in rows}) == len(rows)
        return self.kind == "sum" and once and sum(wins.values()) - sum(row[4] for row in rows) < self.sentence[2]

    def is_closed_for_some(self, cuts):
        if not self.are_other_cuts(cuts):
            return False
        inside = set(cuts)
        return self.empty in inside and all(after in inside for cut in inside for after in self.after[cut])

    def is_closed_for_every(self, cuts):
        inside = set(cuts)
        if not self.are_other_cuts(cuts) or self.whole in inside:
            return False
        reached = [self.empty] + [after for cut in inside for after in self.after[cut]]
        return all(cut in inside or cut in self.fulfilling for cut in reached)

    def are_stretches(self, rows):
        if self.kind != "joint" or len(rows) != len(self.run):
            return False
        for process, (first, last) in enumerate(rows):
            if not 0 <= first <= last <= len(self.run[process]):
                return False
            if not all(slow_fulfils(self.run, process, events, self.sentence) for events in range(first, last + 1)):
                return False
        return no_observation_avoids(self.run, self.before, rows)

    def is_path(self, moves):
        if len(moves) != sum(self.whole) or not all(0 <= process < len(self.run) for process in moves):
            return False
        return self.are_other_cuts(cuts_on_the_way(self.run, moves))


def varied(value):
    """Yields values that differ a little from the paper, or the part of a paper."""
    if type(value) is int:
        yield from (value - 1, value + 1, -value, bool(value), float(value), (value,))
    elif type(value) is str:
        yield from NAMES + ("false", "needs", "", value.upper())
    elif type(value) is tuple:
        yield from (list(value), value[::-1], value + value, value + value[-1:], (value,), ())
        for place, item in enumerate(value):
            yield value[:place] + value[place + 1:]
            yield value[:place] + (item,) + value[place:]
            yield value[:place] + value[place + 1:place + 2] + (item,) + value[place + 2:]
            for other in varied(item):
                yield value[:place] + (other,) + value[place + 1:]
