"""Points 400 to 406: joint sentences."""

import time
import unittest
from itertools import product

from cutpapers.joint import every_joint, moves_to, some_joint, stretches
from cutpapers.order import Order
from cutpapers.sentences import holds, part
from tests.papers import no_observation_avoids, rows_that_apply, slow_clocks, slow_fulfils
from tests.samples import CROSSING, EMPTY_STEP, MEETING_OF_THREE, MEETING_OF_TWO, RUN_109, all_of, at_least, below, kinds
from tests.samples import many_steps, nested, setting, slow_before, slow_cuts, slow_is_cut, small_runs
from tests.searches import Numbers, counted, cuts_on_the_way, fulfilling, is_avoidable, large_runs, made_joint, made_run
from tests.searches import made_runs, slow_holds


def slow_some(run, sentence):
    """Returns the paper of point 401."""
    clocks = slow_clocks(run)
    low = [0] * len(run)
    applied = []
    rows = rows_that_apply(run, clocks, sentence, low)
    while rows:
        applied.append(rows[0])
        low[rows[0][1]] += 1
        if any(number > len(row) for number, row in zip(low, run)):
            return ("wall", tuple(applied))
        rows = rows_that_apply(run, clocks, sentence, low)
    return ("cut", tuple(low))


def slow_stretches(run, process, sentence):
    """Returns the list of the pairs of point 402."""
    most = len(run[process])
    found = []
    for first in range(most + 1):
        for last in range(first, most + 1):
            inside = all(slow_fulfils(run, process, events, sentence) for events in range(first, last + 1))
            beside = [events for events in (first - 1, last + 1) if 0 <= events <= most]
            if inside and not any(slow_fulfils(run, process, events, sentence) for events in beside):
                found.append((first, last))
    return found


def slow_moves(run, cut, target):
    """Returns the list of point 406."""
    moves = []
    while cut != target:
        for process, number in enumerate(cut):
            after = cut[:process] + (number + 1,) + cut[process + 1:]
            if number < target[process] and slow_is_cut(run, after):
                break
        moves.append(process)
        cut = after
    return moves


def questions():
    """Returns pairs of a run and a joint sentence."""
    numbers = Numbers(31)
    runs = made_runs() + small_runs()[::4] + [CROSSING, RUN_109, MEETING_OF_TWO, MEETING_OF_THREE, many_steps(3, 2)]
    asked = [(run, made_joint(numbers, len(run), numbers.between(1, 5))) for run in runs for _ in range(2)]
    for run in runs:
        asked.append((run, all_of(*[at_least(process, numbers.between(-1, 1)) for process in range(len(run))])))
    return asked


def met_runs():
    """Returns pairs of a run in which processes often have a = 1 at once, and the sentence that all have."""
    numbers = Numbers(32)
    asked = []
    for turn in range(120):
        count = 2 + turn % 3
        run = made_run(numbers, [16 // count] * count, 10, 1)
        asked.append((run, all_of(*[at_least(process, numbers.below(2)) for process in range(count)])))
    return asked


def counted_runs():
    """Returns pairs of a run in which a grows, and a sentence with bounds for it from both sides."""
    numbers = Numbers(35)
    asked = []
    for turn in range(160):
        count = 2 + turn % 3
        run = counted(made_run(numbers, [18 // count] * count, 10))
        limbs = []
        for process in range(count):
            bound = numbers.between(1, 18 // count)
            limbs.append(numbers.one_of([at_least, below])(process, bound))
        asked.append((run, all_of(*limbs)))
    return asked


class TestSomeJoint(unittest.TestCase):

    def assert_some(self, paper, run, sentence):
        self.assertEqual(paper, some_joint(Order(run), sentence))
        self.assertEqual(kinds(paper), kinds(some_joint(Order(run), sentence)))

    def test_the_examples_of_the_watcher(self):
        self.assert_some(("wall", (("false", 1),)), ((), ()), at_least(1, 3))
        self.assert_some(("cut", (1, 1)), ((("send", 5, ()),), (("take", 5, (("a", 3),)),)), at_least(1, 3))

    def test_the_empty_cut(self):
        for run in (((),), ((),) * 6, RUN_109, many_steps(6, 30)):
            self.assert_some(("cut", (0,) * len(run)), run, at_least(0, 0))

    def test_empty_rows(self):
        self.assert_some(("wall", (("false", 0),)), ((),), at_least(0, 1))
        self.assert_some(("wall", (("false", 5),)), ((),) * 6, all_of(at_least(0, 0), at_least(5, 1), at_least(5, 2)))
        self.assert_some(("wall", (("false", 1),)), ((),) * 6, all_of(at_least(4, 1), at_least(1, 1)))

    def test_a_single_event(self):
        self.assert_some(("cut", (1,)), (setting("a", 1),), at_least(0, 1))
        self.assert_some(("wall", (("false", 0), ("false", 0))), (setting("a", 1),), at_least(0, 2))
        self.assert_some(("cut", (0, 1)), ((EMPTY_STEP,), setting("d", 1)), at_least(1, 1, "d"))

    def test_a_row_of_30_events(self):
        run = (setting("a", *range(1, 31)),)
        for bound in range(31):
            self.assert_some(("cut", (bound,)), run, at_least(0, bound))
        self.assert_some(("wall", (("false", 0),) * 31), run, at_least(0, 31))

    def test_the_least_false_process_comes_first(self):
        run = (setting("a", 0, 1, 0), setting("a", 1, 0), setting("a", 0, 0))
        rows = [("false", 0)] * 2 + [("false", 1)] + [("false", 2)] * 3
        self.assert_some(("wall", tuple(rows)), run, all_of(at_least(2, 1), at_least(1, 1), at_least(0, 1)))

    def test_the_chain_to_an_event(self):
        run = (
            (EMPTY_STEP, ("send", 1, ()), ("step", (("a", 1),))),
            (("take", 1, ()), EMPTY_STEP, ("send", 2, ()), EMPTY_STEP),
            (("take", 2, (("c", 3),)), ("step", (("c", 0),))),
        )
        self.assert_some(("cut", (2, 3, 1)), run, at_least(2, 3, "c"))
        rows = [("false", 2)] + [("needs", 0, 2)] * 2 + [("needs", 1, 2)] * 3
        # After the third event of process 1, its part is false for the rest of its row.
        sentence = all_of(at_least(2, 3, "c"), below(1, 1))
        changed = (run[0], (("take", 1, ()), EMPTY_STEP, ("send", 2, (("a", 1),)), EMPTY_STEP), run[2])
        self.assert_some(("wall", tuple(rows + [("false", 1)] * 2)), changed, sentence)

    def test_the_least_process_that_needs_it_comes_first(self):
        taking = (("take", 1, ()), ("take", 2, (("a", 1),)), ("step", (("a", 2),)))
        run = ((("send", 1, ()),), (("send", 2, (("b", 1),)),), taking)
        rows = [("false", 2)] * 2 + [("needs", 0, 2), ("needs", 1, 2), ("false", 1)]
        self.assert_some(("wall", tuple(rows)), run, all_of(at_least(2, 1), below(1, 1, "b")))

    def test_for_the_least_other_process(self):
        taking = [(("take", 1, (("b", 1),)),), (("take", 2, (("b", 1),)),)]
        sentence = all_of(at_least(1, 1, "b"), at_least(2, 1, "b"), below(0, 1))
        run = ((("send", 1, ()), ("send", 2, (("a", 1),))), taking[0], taking[1])
        self.assert_some(("wall", (("false", 1), ("false", 2), ("needs", 0, 1), ("needs", 0, 2), ("false", 0))), run, sentence)
        run = ((("send", 2, ()), ("send", 1, (("a", 1),))), taking[0], taking[1])
        self.assert_some(("wall", (("false", 1), ("false", 2), ("needs", 0, 1), ("needs", 0, 1), ("false", 0))), run, sentence)

    def test_false_comes_before_needs(self):
        run = (setting("a", 1, 0) + (("send", 2, (("a", 1),)),), (("take", 2, (("b", 1),)),))
        rows = (("false", 1), ("needs", 0, 1), ("false", 0), ("needs", 0, 1), ("false", 0))
        self.assert_some(("wall", rows), run, all_of(below(0, 1), at_least(1, 1, "b")))

    def test_limbs_with_not_and_or(self):
        run = (setting("a", 5, 3, 1), setting("b", 2, 4))
        either = ("or", below(1, -9, "b"), at_least(1, 3, "b"))
        self.assert_some(("cut", (2, 2)), run, all_of(either, at_least(0, 1), below(0, 4)))
        neither = ("not", ("or", at_least(0, 1), at_least(0, 1, "d")))
        self.assert_some(("cut", (0, 1)), run, all_of(neither, at_least(1, 1, "b")))
        never = ("not", ("or", at_least(0, 1), below(0, 1)))
        self.assert_some(("wall", (("false", 0),) * 4), run, all_of(never, at_least(1, 1, "b")))
        between = ("or", at_least(0, 2), below(0, 1))
        self.assert_some(("cut", (3, 0)), run, ("not", ("and", at_least(0, 0), between)))
        self.assert_some(("cut", (1, 0)), run, nested(5, at_least(0, 1)))

    def test_made_sentences(self):
        found = {"cut": 0, "wall": 0}
        for run, sentence in questions() + met_runs() + counted_runs():
            paper = some_joint(Order(run), sentence)
            self.assertEqual(slow_some(run, sentence), paper, (run, sentence))
            found[paper[0]] += 1
            cuts = fulfilling(run, sentence)
            if paper[0] == "wall":
                self.assertEqual([], cuts)
            else:
                least = tuple(min(cut[process] for cut in cuts) for process in range(len(run)))
                self.assertEqual(("cut", least), paper)
                self.assertIn(least, cuts)
        self.assertGreater(min(found.values()), 100)

    def test_each_row_of_a_wall_applies_and_only_the_last_one_goes_beyond_its_process(self):
        many = 0
        for run, sentence in questions() + met_runs() + counted_runs():
            paper = some_joint(Order(run), sentence)
            if paper[0] == "cut":
                continue
            clocks = slow_clocks(run)
            low = [0] * len(run)
            for row in paper[1]:
                self.assertTrue(all(number <= len(events) for number, events in zip(low, run)))
                self.assertIn(row, rows_that_apply(run, clocks, sentence, low))
                low[row[1]] += 1
                many += row[0] == "needs"
            self.assertEqual(1, sum(number > len(events) for number, events in zip(low, run)))
        self.assertGreater(many, 50)


class TestStretches(unittest.TestCase):

    def test_several(self):
        order = Order((setting("a", 1, 1, 0, 1, 0, 0, 1), ()))
        self.assertEqual([(1, 2), (4, 4), (7, 7)], stretches(order, 0, [at_least(0, 1)]))
        self.assertEqual([(0, 0), (3, 3), (5, 6)], stretches(order, 0, [below(0, 1)]))

    def test_all_and_none(self):
        order = Order((setting("a", 1, 0, 1), ()))
        for limbs in ([], [at_least(0, 0)], [("or", at_least(0, 1), below(0, 1))]):
            self.assertEqual([(0, 3)], stretches(order, 0, limbs))
        self.assertEqual([(0, 0)], stretches(order, 1, []))
        self.assertEqual([(0, 0)], stretches(order, 1, [at_least(1, 0)]))
        self.assertEqual([], stretches(order, 0, [at_least(0, 2)]))
        self.assertEqual([], stretches(order, 1, [at_least(1, 1)]))

    def test_at_the_beginning_and_at_the_end(self):
        order = Order((setting("a", *range(1, 31)),))
        self.assertEqual([(0, 9)], stretches(order, 0, [below(0, 10)]))
        self.assertEqual([(10, 30)], stretches(order, 0, [at_least(0, 10)]))
        self.assertEqual([(0, 0)], stretches(order, 0, [below(0, 1)]))
        self.assertEqual([(30, 30)], stretches(order, 0, [at_least(0, 30)]))
        self.assertEqual([(0, 9), (20, 30)], stretches(order, 0, [("or", below(0, 10), at_least(0, 20))]))
        self.assertEqual([(10, 19)], stretches(order, 0, [at_least(0, 10), below(0, 20)]))

    def test_every_other_state(self):
        order = Order((setting("b", *[1, 0] * 15),))
        self.assertEqual([(number, number) for number in range(1, 30, 2)], stretches(order, 0, [at_least(0, 1, "b")]))
        self.assertEqual([(number, number) for number in range(0, 31, 2)], stretches(order, 0, [below(0, 1, "b")]))

    def test_a_single_event(self):
        order = Order((setting("a", 1),))
        self.assertEqual([(1, 1)], stretches(order, 0, [at_least(0, 1)]))
        self.assertEqual([(0, 0)], stretches(order, 0, [below(0, 1)]))
        self.assertEqual([(0, 1)], stretches(order, 0, [at_least(0, 0)]))

    def test_made_sentences(self):
        for run, sentence in questions():
            order = Order(run)
            for process in range(len(run)):
                limbs = part(sentence, process)
                kept = list(limbs)
                found = stretches(order, process, limbs)
                self.assertEqual(slow_stretches(run, process, sentence), found, (run, process, sentence))
                self.assertEqual(kept, limbs)

    def test_the_list_is_new(self):
        order = Order((setting("a", 1, 0),))
        changed = stretches(order, 0, [at_least(0, 1)])
        changed.clear()
        self.assertEqual([(1, 1)], stretches(order, 0, [at_least(0, 1)]))
        self.assertIs(list, type(changed))


class TestMovesTo(unittest.TestCase):

    def test_no_moves(self):
        for run in (((),), ((),) * 6, CROSSING):
            for cut in slow_cuts(run):
                self.assertEqual([], moves_to(Order(run), cut, cut))

    def test_the_least_process_that_can_be_added(self):
        order = Order(many_steps(3, 3))
        self.assertEqual([0, 1, 1, 1], moves_to(order, (1, 0, 2), (2, 3, 2)))
        self.assertEqual([0, 0, 0, 1, 1, 1, 2, 2, 2], moves_to(order, (0, 0, 0), (3, 3, 3)))
        self.assertEqual([2], moves_to(order, (0, 0, 0), (0, 0, 1)))

    def test_an_event_is_added_as_soon_as_its_letter_is_sent(self):
        order = Order(((("take", 5, ()),), (("send", 5, ()), EMPTY_STEP)))
        self.assertEqual([1, 0, 1], moves_to(order, (0, 0), (1, 2)))
        self.assertEqual([1, 1], moves_to(order, (0, 0), (0, 2)))
        self.assertEqual([0], moves_to(order, (0, 1), (1, 1)))
        self.assertEqual([0, 1], moves_to(order, (0, 1), (1, 2)))
        self.assertEqual([0], moves_to(order, (0, 2), (1, 2)))

    def test_chains(self):
        order = Order(((("take", 3, ()),), (("take", 2, ()), ("send", 3, ())), (EMPTY_STEP, ("send", 2, ()))))
        self.assertEqual([2, 2, 1, 1, 0], moves_to(order, (0, 0, 0), (1, 2, 2)))
        order = Order(((EMPTY_STEP, ("take", 1, ()), EMPTY_STEP), (EMPTY_STEP, ("send", 1, ()), EMPTY_STEP)))
        self.assertEqual([0, 1, 1, 0, 0, 1], moves_to(order, (0, 0), (3, 3)))

    def test_small_runs(self):
        for run in made_runs()[::4] + small_runs()[::10] + [CROSSING, RUN_109]:
            order = Order(run)
            cuts = slow_cuts(run)
            for cut, target in product(cuts[::2], cuts[::3] + cuts[-1:]):
                if all(one <= other for one, other in zip(cut, target)):
                    self.assertEqual(slow_moves(run, cut, target), moves_to(order, cut, target), (run, cut, target))

    def test_the_list_is_new(self):
        order = Order(many_steps(2, 1))
        changed = moves_to(order, (0, 0), (1, 1))
        changed.append(None)
        self.assertEqual([0, 1], moves_to(order, (0, 0), (1, 1)))

    def test_beyond_the_rows(self):
        self.assertEqual([0, 1], moves_to(Order(many_steps(2, 1)), (0, 0), (3, 9)))


class TestEveryJoint(unittest.TestCase):

    def assert_path(self, run, sentence):
        """Asserts that the paper is an observation whose cuts do not fulfil the sentence."""
        order = Order(run)
        name, moves = every_joint(order, sentence)
        self.assertEqual("path", name, (run, sentence))
        self.assertIs(tuple, type(moves))
        way = cuts_on_the_way(run, moves)
        self.assertEqual(tuple(len(row) for row in run), way[-1])
        for cut in way:
            self.assertTrue(slow_is_cut(run, cut), (run, sentence, cut))
            self.assertFalse(slow_holds(run, cut, sentence), (run, sentence, cut))

    def assert_stretches(self, rows, run, sentence):
        self.assertEqual(("stretches", rows), every_joint(Order(run), sentence))
        self.assertEqual(kinds(("stretches", rows)), kinds(every_joint(Order(run), sentence)))
        self.assertFalse(is_avoidable(run, sentence))

    def test_one_process(self):
        run = (setting("a", 0, 1, 1, 0, 1),)
        self.assert_stretches(((2, 3),), run, at_least(0, 1))
        self.assert_stretches(((0, 1),), run, below(0, 1))
        self.assert_stretches(((0, 5),), run, at_least(0, 0))
        self.assertEqual(("path", (0,) * 5), every_joint(Order(run), at_least(0, 2)))

    def test_empty_rows(self):
        for count in range(1, 7):
            run = ((),) * count
            self.assert_stretches(((0, 0),) * count, run, at_least(count - 1, 0))
            self.assertEqual(("path", ()), every_joint(Order(run), at_least(count - 1, 1)))

    def test_without_letters(self):
        run = (setting("a", 1, 0), setting("a", 1, 0))
        self.assert_path(run, all_of(at_least(0, 1), at_least(1, 1)))
        self.assert_stretches(((1, 1), (0, 2)), run, at_least(0, 1))
        self.assert_stretches(((0, 0), (0, 0)), run, all_of(below(0, 1), below(1, 1)))
        self.assert_stretches(((1, 2), (1, 2)), (setting("a", 1, 2),) * 2, all_of(at_least(0, 1), at_least(1, 1)))
        self.assert_path(run, all_of(below(0, 1), at_least(1, 1)))
        self.assert_path(run, all_of(at_least(0, 1), below(1, 1)))

    def test_the_end_is_a_cut_too(self):
        run = (setting("a", 1, 0, 1), setting("a", 1, 0, 1))
        self.assert_stretches(((3, 3), (3, 3)), run, all_of(at_least(0, 1), at_least(1, 1)))

    def test_one_letter(self):
        begun = (("send", 7, (("a", 1),)),)
        run = ((("take", 7, (("a", 1),)),), begun)
        self.assert_stretches(((0, 0), (1, 1)), run, all_of(below(0, 1), at_least(1, 1)))
        self.assert_path((setting("a", 1), begun), all_of(below(0, 1), at_least(1, 1)))
        # The letter is sent before the process begins.
        self.assert_path((run[0], (("send", 7, ()),) + setting("a", 1)), all_of(below(0, 1), at_least(1, 1)))
        # The letter is taken after the process ended.
        self.assert_path((setting("a", 1) + (("take", 7, ()),), begun), all_of(below(0, 1), at_least(1, 1)))

    def test_a_chain_over_several_processes(self):
        run = (
            (("take", 3, (("a", 1),)),), (("take", 2, ()), EMPTY_STEP, ("send", 3, ())), (("take", 1, ()), ("send", 2, ())),
            (("send", 1, (("a", 1),)), EMPTY_STEP),
        )
        self.assert_stretches(((0, 0), (0, 3), (0, 2), (1, 2)), run, all_of(below(0, 1), at_least(3, 1)))
        cut_off = run[:1] + ((("send", 3, ()), ("take", 2, ())),) + run[2:]
        self.assert_path(cut_off, all_of(below(0, 1), at_least(3, 1)))

    def test_meetings(self):
        self.assert_stretches(((1, 1), (1, 1)), MEETING_OF_TWO, all_of(at_least(0, 1), at_least(1, 1)))
        sentence = all_of(*[at_least(process, 1) for process in range(3)])
        self.assert_stretches(((1, 5),) * 3, MEETING_OF_THREE, sentence)
        for place in range(3):
            # This process does not wait for the others.
            early = (MEETING_OF_THREE[place][:3] + setting("a", 0) + MEETING_OF_THREE[place][3:5])
            run = MEETING_OF_THREE[:place] + (early,) + MEETING_OF_THREE[place + 1:]
            self.assert_path(run, sentence)
            self.assertTrue(is_avoidable(run, sentence))

    def test_a_later_stretch(self):
        sentence = all_of(at_least(0, 1), at_least(1, 1))
        alone = setting("a", 1, 0)
        self.assert_stretches(((3, 3), (1, 1)), (alone + MEETING_OF_TWO[0], MEETING_OF_TWO[1]), sentence)
        self.assert_stretches(((1, 1), (3, 3)), (MEETING_OF_TWO[0], alone + MEETING_OF_TWO[1]), sentence)
        self.assert_stretches(((5, 5), (7, 7)), (alone * 2 + MEETING_OF_TWO[0], alone * 3 + MEETING_OF_TWO[1]), sentence)
        self.assert_stretches(((1, 1), (1, 1)), (MEETING_OF_TWO[0] + alone, MEETING_OF_TWO[1] + alone), sentence)

    def test_a_way_that_ends_without_a_head(self):
        sentence = all_of(at_least(0, 1), at_least(1, 1), at_least(2, 1))
        alone = setting("a", 1, 0)
        self.assert_path((alone * 3, alone * 2, alone), sentence)
        self.assert_path((alone, alone * 3, setting("a", 1)), sentence)
        self.assert_path((alone * 15, alone * 15, setting("a", *[0] * 29, 1)), sentence)
        self.assert_path((alone, alone, setting("a", 0)), sentence)

    def test_made_sentences(self):
        found = {"path": 0, "stretches": 0}
        begun = 0
        for run, sentence in questions() + met_runs() + counted_runs():
            paper = every_joint(Order(run), sentence)
            found[paper[0]] += 1
            if is_avoidable(run, sentence):
                self.assert_path(run, sentence)
                continue
            before = slow_before(run)
            choices = product(*[slow_stretches(run, process, sentence) for process in range(len(run))])
            fitting = [rows for rows in choices if no_observation_avoids(run, before, rows)]
            self.assertIn(paper[1], fitting, (run, sentence))
            # The heads are passed only where they can't be among such stretches.
            self.assertEqual(tuple(min(column) for column in zip(*fitting)), paper[1])
            begun += any(first > 0 for first, _ in paper[1]) and any(last < len(row) for row, (_, last) in zip(run, paper[1]))
        self.assertGreater(min(found.values()), 100)
        self.assertGreater(begun, 20)

    def test_there_are_such_stretches_just_if_there_is_no_path(self):
        for run, sentence in questions() + met_runs() + counted_runs():
            before = slow_before(run)
            choices = product(*[slow_stretches(run, process, sentence) for process in range(len(run))])
            fitting = [rows for rows in choices if no_observation_avoids(run, before, rows)]
            self.assertEqual("stretches" if fitting else "path", every_joint(Order(run), sentence)[0])


class TestJoint(unittest.TestCase):

    def test_earlier_calls_do_not_matter(self):
        numbers = Numbers(33)
        for run in (CROSSING, MEETING_OF_THREE, many_steps(6, 3)):
            order = Order(run)
            sentences = tuple(made_joint(numbers, len(run), numbers.between(1, 4)) for _ in range(8))
            told = kinds(sentences)
            there = [(some_joint(order, sentence), every_joint(order, sentence)) for sentence in sentences]
            back = [(every_joint(order, sentence), some_joint(order, sentence)) for sentence in reversed(sentences)]
            self.assertEqual(there, [(some, every) for every, some in reversed(back)])
            self.assertEqual(there, [(some_joint(Order(run), one), every_joint(Order(run), one)) for one in sentences])
            self.assertEqual(told, kinds(sentences))

    def test_large_runs(self):
        numbers = Numbers(34)
        for run in large_runs() + [counted(run) for run in large_runs()] + [many_steps(6, 30)]:
            order = Order(run)
            sentences = [
                made_joint(numbers, 6, 24, 6), all_of(*[at_least(process, 1) for process in range(6)]),
                all_of(*[nested(6, below(process, 29)) for process in range(6)]), at_least(0, 999),
                all_of(below(0, 5), at_least(5, 25)), all_of(below(5, 5), at_least(0, 25)),
            ]
            for sentence in sentences:
                begin = time.process_time()
                some, every = some_joint(order, sentence), every_joint(order, sentence)
                self.assertLess(time.process_time() - begin, 3)
                if some[0] == "cut":
                    self.assertTrue(order.is_cut(some[1]) and holds(order, some[1], sentence))
                if every[0] == "path":
                    for cut in cuts_on_the_way(run, every[1]):
                        self.assertTrue(order.is_cut(cut) and not holds(order, cut, sentence))
                    self.assertEqual(order.whole(), cut)
                else:
                    self.assertEqual("cut", some[0])

    def test_beyond_the_limits(self):
        order = Order((setting("a", 1), ()))
        self.assertEqual(("cut", (1, 0)), some_joint(order, nested(41, at_least(0, 1))))
        self.assertEqual(("stretches", ((1, 1), (0, 0))), every_joint(order, nested(41, at_least(0, 1))))
        self.assertEqual(("wall", (("false", 0),) * 2), some_joint(order, at_least(0, 10 ** 9)))

    def test_a_process_that_the_run_does_not_have_counts_as_one_without_events(self):
        order = Order((setting("a", 1), ()))
        for process in (-1, 2, 7):
            self.assertEqual(("cut", (1, 0)), some_joint(order, all_of(at_least(process, 0), at_least(0, 1))))
            self.assertEqual(("wall", (("false", process),)), some_joint(order, at_least(process, 1)))
            self.assertEqual(("stretches", ((0, 1), (0, 0))), every_joint(order, at_least(process, 0)))
            self.assertEqual(("path", (0,)), every_joint(order, at_least(process, 1)))
            self.assertEqual([(0, 0)], stretches(order, process, []))


if __name__ == "__main__":
    unittest.main()
