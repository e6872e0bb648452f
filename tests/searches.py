"""Made-up runs and sentences, and slow answers about sentences to compare with.

The slow answers follow the words of the document as directly as possible, and
try all cuts and all observations.
"""

from tests.samples import CROSSING, MEETING_OF_TWO, RUN_109, many_steps, slow_cuts, slow_state, slow_under_way, small_runs


class Numbers:
    """A row of numbers that is the same each time: what is made up is the same in each run of the tests."""

    def __init__(self, seed):
        self.last = seed

    def below(self, bound):
        self.last = (self.last * 6364136223846793005 + 1442695040888963407) % 2 ** 64
        return (self.last >> 33) % bound

    def between(self, least, greatest):
        return least + self.below(greatest - least + 1)

    def one_of(self, values):
        return values[self.below(len(values))]

    def some_of(self, values, most):
        """Returns a list of at most so many of the values."""
        return list(values) if len(values) <= most else [self.one_of(values) for _ in range(most)]

    def shuffled(self, values):
        """Returns a list of the values in another order."""
        left = list(values)
        return [left.pop(self.below(len(left))) for _ in values]


def made_changes(numbers, greatest):
    """Returns changes of about one variable, with values of at most this absolute value."""
    return tuple((variable, numbers.between(-greatest, greatest)) for variable in "abcd" if numbers.below(3) == 0)


def made_run(numbers, sizes, letters, greatest=3):
    """Returns a run with rows of these sizes; of ten events, about so many send or take letters."""
    rows = [[] for _ in sizes]
    under_way = []
    sent = 0
    for _ in range(sum(sizes)):
        process = numbers.one_of([place for place, size in enumerate(sizes) if len(rows[place]) < size])
        changes = made_changes(numbers, greatest)
        if numbers.below(10) >= letters:
            rows[process].append(("step", changes))
        elif under_way and numbers.below(2) == 0:
            rows[process].append(("take", under_way.pop(numbers.below(len(under_way))), changes))
        else:
            sent += 1
            under_way.append(sent)
            rows[process].append(("send", sent, changes))
    return tuple(tuple(row) for row in rows)


def made_runs():
    """Returns runs of one to six processes, small enough for trying all cuts."""
    numbers = Numbers(11)
    most = {1: 9, 2: 6, 3: 4, 4: 3, 5: 2, 6: 1}
    runs = []
    for turn in range(180):
        count = 1 + turn % 6
        sizes = [numbers.between(0, most[count]) for _ in range(count)]
        runs.append(made_run(numbers, sizes, numbers.one_of([0, 4, 7, 10])))
    return runs


def large_runs():
    """Returns runs of six processes of 30 events, with many letters, with some, and with none."""
    numbers = Numbers(12)
    sizes = [30] * 6
    return [made_run(numbers, sizes, letters, greatest) for letters in (10, 9, 6, 3, 0) for greatest in (1, 40, 1000)]


def counted(run):
    """Returns the run with the number of each event as the value of a."""
    return tuple(tuple(event[:-1] + ((("a", number),),) for number, event in enumerate(row, start=1)) for row in run)


def made_at(numbers, process):
    return ("at", process, numbers.one_of("abcd"), numbers.between(-3, 4))


def made_terms(numbers, count, most=6):
    """Returns terms over so many processes, some of them equal or of weight 0."""
    terms = []
    for _ in range(numbers.between(1, most)):
        if terms and numbers.below(6) == 0:
            terms.append(numbers.one_of(terms))
        else:
            terms.append((numbers.between(-4, 4), numbers.below(count), numbers.one_of("abcd")))
    return tuple(terms)


def made_limb(numbers, process, depth):
    """Returns a sentence of at most this depth that speaks only about the process, and is no `and`."""
    word = numbers.one_of(["at", "not", "or", "or"])
    if depth == 1 or word == "at":
        return made_at(numbers, process)
    inner = []
    for _ in range(2):
        limb = made_limb(numbers, process, depth - 1)
        other = made_limb(numbers, process, max(1, depth - 2))
        inner.append(("and", limb, other) if depth > 2 and numbers.below(3) == 0 else limb)
    return ("not", inner[0]) if word == "not" else ("or", inner[0], inner[1])


def made_joint(numbers, count, limbs, depth=3):
    """Returns a joint sentence of so many limbs, each about one of so many processes."""
    if limbs == 1:
        return made_limb(numbers, numbers.below(count), depth)
    first = numbers.between(1, limbs - 1)
    return ("and", made_joint(numbers, count, first, depth), made_joint(numbers, count, limbs - first, depth))


def made_sentence(numbers, count, depth):
    """Returns a sentence of just this depth, of any words."""
    if depth == 1:
        word = numbers.one_of(["at", "way", "sum"])
        if word == "at":
            return made_at(numbers, numbers.below(count))
        if word == "way":
            return ("way", numbers.below(4))
        return ("sum", made_terms(numbers, count), numbers.between(-9, 9))
    word = numbers.one_of(["not", "and", "or"])
    inner = made_sentence(numbers, count, depth - 1)
    if word == "not":
        return ("not", inner)
    pair = [inner, made_sentence(numbers, count, numbers.between(1, depth - 1))]
    if numbers.below(2) == 0:
        pair.reverse()
    return (word, pair[0], pair[1])


def of_size(run, size):
    """Returns a sentence that just the cuts of this size of a counted run fulfil."""
    terms = tuple((1, process, "a") for process in range(len(run)))
    return ("and", ("sum", terms, size), ("not", ("sum", terms, size + 1)))


def made_questions(seed):
    """Returns pairs of a run, small enough for trying all observations, and a sentence, of all kinds."""
    numbers = Numbers(seed)
    asked = []
    for run in made_runs() + small_runs()[::6] + [CROSSING, RUN_109, MEETING_OF_TWO, many_steps(3, 2), ((),), ((),) * 6]:
        count = len(run)
        asked.append((run, made_joint(numbers, count, numbers.between(1, 4))))
        asked.append((run, ("sum", made_terms(numbers, count), numbers.between(-4, 9))))
        asked.append((run, made_sentence(numbers, count, numbers.between(1, 4))))
        # Each observation passes a cut of each size, and few of them more than
        # one that fulfils the other sentence, too.
        size = numbers.between(0, sum(len(row) for row in run))
        other = made_sentence(numbers, count, numbers.between(1, 3))
        asked.append((counted(run), (numbers.one_of(["and", "or"]), of_size(run, size), other)))
    asked.append((MEETING_OF_TWO, ("and", ("at", 0, "a", 1), ("at", 1, "a", 1))))
    return asked


def slow_value(run, cut, process, variable):
    """Returns the value of the variable of the process at the cut."""
    return slow_state(run, process, cut[process])["abcd".index(variable)]


def slow_sum(run, cut, terms):
    """Returns the sum at the cut."""
    total = 0
    for weight, process, variable in terms:
        total += weight * slow_value(run, cut, process, variable)
    return total


def slow_holds(run, cut, sentence):
    """Returns whether the cut fulfils the sentence, by the table of point 300."""
    word, items = sentence[0], sentence[1:]
    if word == "at":
        return slow_value(run, cut, items[0], items[1]) >= items[2]
    if word == "way":
        return slow_under_way(run, cut) >= items[0]
    if word == "sum":
        return slow_sum(run, cut, items[0]) >= items[1]
    inner = [slow_holds(run, cut, item) for item in items]
    return {"not": not inner[0], "and": all(inner), "or": any(inner)}[word]


def fulfilling(run, sentence):
    """Returns the list of the cuts that fulfil the sentence."""
    return [cut for cut in slow_cuts(run) if slow_holds(run, cut, sentence)]


def next_cuts(cut, cuts):
    """Returns those of the cuts that have one event more than the cut."""
    return [after for after in cuts if sum(after) == sum(cut) + 1 and all(x <= y for x, y in zip(cut, after))]


def avoiding_cuts(run, sentence):
    """Returns the list of the avoiding cuts, in the order of the document, by trying all observations."""
    cuts = [cut for cut in slow_cuts(run) if not slow_holds(run, cut, sentence)]
    reached = [cut for cut in cuts if sum(cut) == 0]
    found = []
    while reached:
        found.extend(reached)
        reached = sorted({after for cut in reached for after in next_cuts(cut, cuts)})
    return found


def is_avoidable(run, sentence):
    """Returns whether an observation passes no cut that fulfils the sentence, by trying all observations."""
    return tuple(len(row) for row in run) in avoiding_cuts(run, sentence)


def slow_answer(run, question, sentence):
    """Returns the answer to the question, by trying all cuts and all observations."""
    return bool(fulfilling(run, sentence)) if question == "some" else not is_avoidable(run, sentence)


def cuts_on_the_way(run, moves):
    """Returns the list of the tuples that the moves go through, the empty cut included."""
    way = [(0,) * len(run)]
    for process in moves:
        cut = way[-1]
        way.append(cut[:process] + (cut[process] + 1,) + cut[process + 1:])
    return way
