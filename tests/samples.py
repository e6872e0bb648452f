"""Values for the tests, and slow answers to compare with.

The slow answers follow the words of the document as directly as possible.
"""

from itertools import product

EMPTY_STEP = ("step", ())
FULL_CHANGES = (("a", 1000), ("b", -1000), ("c", 0), ("d", 7))

# The run of point 109 and its text.
RUN_109 = ((("send", 5, (("a", 1), ("c", -2))), ("step", ())), (), (("take", 5, ()),))
TEXT_109 = "send 5 a=1 c=-2; step\n\ntake 5"

# The sentence of point 110 and its text.
SENTENCE_110 = ("and", ("not", ("at", 0, "a", 5)), ("sum", ((2, 0, "b"), (-1, 1, "a")), -3))
TEXT_110 = "(not (0.a >= 5)) and (2*0.b + -1*1.a >= -3)"

# Three processes, letters that cross each other, one that is never taken, and
# one that a process sends to itself.
CROSSING = (
    (("send", 1, (("a", 1),)), ("take", 2, (("b", 2),)), ("send", 4, ()), ("take", 5, (("a", -3),))),
    (("send", 2, ()), ("take", 1, (("a", 4), ("d", 5))), ("send", 3, ())),
    (("step", (("c", 9),)), ("take", 3, ()), ("send", 5, (("c", 0),)), ("send", 6, ()), ("take", 6, ())),
)

# All of them have a = 1 at once in each observation: each tells each other one
# that it begins, and does not end before it was told by all the others.
MEETING_OF_TWO = (
    (("send", 1, (("a", 1),)), ("take", 2, (("a", 0),))),
    (("send", 2, (("a", 1),)), ("take", 1, (("a", 0),))),
)
MEETING_OF_THREE = (
    (("step", (("a", 1),)), ("send", 1, ()), ("send", 2, ()), ("take", 3, ()), ("take", 5, ()), ("step", (("a", 0),))),
    (("step", (("a", 1),)), ("send", 3, ()), ("send", 4, ()), ("take", 1, ()), ("take", 6, ()), ("step", (("a", 0),))),
    (("step", (("a", 1),)), ("send", 5, ()), ("send", 6, ()), ("take", 2, ()), ("take", 4, ()), ("step", (("a", 0),))),
)


class Hostile:
    """An object whose every comparison, test or question raises an error."""

    def _fail(self, *told):
        raise RuntimeError("this object was asked something")

    __eq__ = __ne__ = __lt__ = __le__ = __gt__ = __ge__ = _fail
    __hash__ = __len__ = __bool__ = __iter__ = __getitem__ = __contains__ = _fail
    __int__ = __index__ = __str__ = __repr__ = __add__ = __radd__ = _fail
    __class__ = property(_fail)


class HostileInt(int):
    """An int whose comparisons raise errors."""

    __eq__ = __ne__ = __lt__ = __le__ = __gt__ = __ge__ = Hostile._fail
    __hash__ = Hostile._fail


class HostileStr(str):
    """A str whose comparisons raise errors."""

    __eq__ = __ne__ = __lt__ = __le__ = __gt__ = __ge__ = Hostile._fail
    __hash__ = Hostile._fail


class HostileTuple(tuple):
    """A tuple that can't be measured or gone through."""

    __eq__ = __len__ = __iter__ = __getitem__ = Hostile._fail
    __hash__ = Hostile._fail


def other_values():
    """Values that are never an item of a run or a sentence, whatever the place."""
    return [
        None, True, False, 1.0, 0.5, 1j, b"a", b"step", "", "x", "A", "e", "ab", " a", "1", [], ["a"], {}, {"a": 1},
        set(), object(), int, len, Hostile(), Hostile, HostileInt(1), HostileStr("a"), HostileStr("step"),
        HostileTuple(("a", 1)), (), (None,), ((),), ("x",), ("step",), ("a", 1, 2, 3, 4), 10 ** 30, -10 ** 30,
    ]


def replaced(value):
    """Yields the value with one part of it, at any depth or as a whole, replaced by another value."""
    yield from other_values()
    if type(value) is tuple:
        yield list(value)
        yield value + (None,)
        for place, part in enumerate(value):
            yield value[:place] + value[place + 1:]
            for other in replaced(part):
                yield value[:place] + (other,) + value[place + 1:]


def shown(value):
    """Returns a text of the value for a failing test, whatever the value does."""
    try:
        return ascii(value)
    except Exception:
        return "a value that can't be shown"


def kinds(value):
    """Returns the value with the class of each of its parts."""
    if type(value) is tuple:
        return (tuple, [kinds(part) for part in value])
    return (type(value), value)


def nested(depth, leaf=("way", 1)):
    """Returns a sentence of just this nesting depth."""
    sentence = leaf
    for _ in range(depth - 1):
        sentence = ("not", sentence)
    return sentence


def many_steps(processes, events):
    """Returns a run of so many processes that only step."""
    return tuple(tuple(("step", (("a", number),)) for number in range(1, events + 1)) for _ in range(processes))


def step(**changes):
    return ("step", tuple(changes.items()))


def setting(variable, *values):
    """Returns a row of steps that give the variable these values."""
    return tuple(("step", ((variable, value),)) for value in values)


def all_of(*limbs):
    """Returns the sentence that has these limbs."""
    sentence = limbs[0]
    for limb in limbs[1:]:
        sentence = ("and", sentence, limb)
    return sentence


def at_least(process, bound, variable="a"):
    return ("at", process, variable, bound)


def below(process, bound, variable="a"):
    return ("not", ("at", process, variable, bound))


def rows_of(kinds_of_events, length):
    """Returns all rows of at most so many of the events."""
    return [row for size in range(length + 1) for row in product(kinds_of_events, repeat=size)]


def slow_is_possible(rows):
    """Returns whether all events can be put into one row, by trying each next event."""
    reached = [(0,) * len(rows)]
    whole = tuple(len(row) for row in rows)
    seen = set(reached)
    while reached:
        cut = reached.pop()
        if cut == whole:
            return True
        sent = {event[1] for row, many in zip(rows, cut) for event in row[:many] if event[0] == "send"}
        for process, row in enumerate(rows):
            many = cut[process]
            if many < len(row) and (row[many][0] != "take" or row[many][1] in sent):
                after = cut[:process] + (many + 1,) + cut[process + 1:]
                if after not in seen:
                    seen.add(after)
                    reached.append(after)
    return False


def slow_is_run(rows):
    """Returns whether rows of events are a run."""
    sends = [event[1] for row in rows for event in row if event[0] == "send"]
    takes = [event[1] for row in rows for event in row if event[0] == "take"]
    once = len(set(sends)) == len(sends) and len(set(takes)) == len(takes)
    return once and all(letter in sends for letter in takes) and slow_is_possible(rows)


def places(run):
    """Returns the pairs (process, number) of all events."""
    return [(process, number + 1) for process, row in enumerate(run) for number in range(len(row))]


def slow_before(run):
    """Returns the set of the pairs of places of which the first is before the second."""
    event = {(process, number): run[process][number - 1] for process, number in places(run)}
    pairs = set()
    for one in event:
        for other in event:
            along = one[0] == other[0] and one[1] < other[1]
            letter = event[one][0] == "send" and event[other][0] == "take" and event[one][1] == event[other][1]
            if along or letter:
                pairs.add((one, other))
    for middle in event:
        for one in event:
            for other in event:
                if (one, middle) in pairs and (middle, other) in pairs:
                    pairs.add((one, other))
    return pairs


def events_in(run, cut):
    """Returns the list of the events that are in the cut."""
    return [event for row, many in zip(run, cut) for event in row[:many]]


def slow_is_cut(run, cut):
    """Returns whether beginnings of the rows have the send of each letter that is taken in them."""
    sends = [event[1] for event in events_in(run, cut) if event[0] == "send"]
    return all(event[1] in sends for event in events_in(run, cut) if event[0] == "take")


def slow_cuts(run):
    """Returns the list of all cuts, in the order of the document."""
    choices = product(*[range(len(row) + 1) for row in run])
    return sorted([cut for cut in choices if slow_is_cut(run, cut)], key=lambda cut: (sum(cut), cut))


def slow_under_way(run, cut):
    """Returns the number of letters whose send is in the cut and whose take is not."""
    takes = [event[1] for event in events_in(run, cut) if event[0] == "take"]
    return len([event for event in events_in(run, cut) if event[0] == "send" and event[1] not in takes])


def slow_state(run, process, events):
    """Returns the state of the process after so many events."""
    state = {"a": 0, "b": 0, "c": 0, "d": 0}
    for event in run[process][:events]:
        state.update(event[-1])
    return tuple(state[variable] for variable in "abcd")


def small_runs():
    """Returns many different small runs."""
    alphabet = [
        ("step", (("a", 1),)), ("send", 1, (("b", 2),)), ("send", 2, ()), ("take", 1, ()), ("take", 2, (("a", 3),)),
    ]
    two = [(first, second) for first in rows_of(alphabet, 3) for second in rows_of(alphabet, 3)]
    three = list(product(rows_of(alphabet[1:], 2), repeat=3))
    runs = [rows for rows in two[::7] + three[::5] if slow_is_run(rows)]
    return runs + [CROSSING, RUN_109, ((),), ((), (), ()), many_steps(3, 2)]
