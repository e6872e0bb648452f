"""Points 600 to 602: sentences of any kind."""

import time
import unittest

from cutpapers.errors import CutError, TooMany
from cutpapers.free import every_free, some_free
from cutpapers.order import Order
from tests.samples import CROSSING, EMPTY_STEP, MEETING_OF_TWO, RUN_109, at_least, below, kinds, many_steps, setting, slow_cuts
from tests.searches import Numbers, avoiding_cuts, counted, cuts_on_the_way, fulfilling, made_questions, made_sentence
from tests.searches import is_avoidable, of_size

ALWAYS = ("way", 0)
NEVER = ("not", ("way", 0))

# Two letters, of which the second one is sent before the first one is taken.
LETTERS = ((("send", 1, ()), ("send", 2, ())), (("take", 1, ()), ("take", 2, ())))
CUTS_OF_LETTERS = ((0, 0), (1, 0), (1, 1), (2, 0), (2, 1), (2, 2))


class TestSomeFree(unittest.TestCase):

    def assert_some(self, paper, run, sentence, most):
        """Asserts the paper, and that the bound is the least one for it."""
        self.assertEqual(paper, some_free(Order(run), sentence, most))
        self.assertEqual(kinds(paper), kinds(some_free(Order(run), sentence, most)))
        self.assertEqual(paper, some_free(Order(run), sentence, most + 1))
        self.assert_too_many(run, sentence, most - 1)

    def assert_too_many(self, run, sentence, most):
        with self.assertRaises(TooMany):
            some_free(Order(run), sentence, most)

    def test_the_first_cut(self):
        self.assert_some(("cut", (0, 0)), LETTERS, ("way", 0), 6)
        self.assert_some(("cut", (1, 0)), LETTERS, ("way", 1), 6)
        self.assert_some(("cut", (2, 0)), LETTERS, ("way", 2), 6)
        self.assert_some(("closed", CUTS_OF_LETTERS), LETTERS, ("way", 3), 6)

    def test_the_first_of_several_cuts_of_one_size(self):
        run = many_steps(3, 1)
        self.assert_some(("cut", (0, 0, 1)), run, ("sum", ((1, 0, "a"), (1, 1, "a"), (1, 2, "a")), 1), 8)
        self.assert_some(("cut", (0, 1, 1)), run, ("sum", ((1, 0, "a"), (1, 1, "a"), (1, 2, "a")), 2), 8)
        self.assert_some(("cut", (1, 0, 0)), run, ("or", at_least(0, 1), ("and", at_least(1, 1), at_least(2, 1))), 8)
        # The least size comes first, although (0, 9) is less than (1, 0).
        self.assert_some(("cut", (1, 0)), counted(many_steps(2, 9)), ("or", at_least(0, 1), at_least(1, 9)), 100)

    def test_the_order_of_a_closed_paper(self):
        cuts = ((0, 0), (0, 1), (1, 0), (0, 2), (1, 1), (2, 0), (1, 2), (2, 1), (2, 2))
        self.assert_some(("closed", cuts), many_steps(2, 2), NEVER, 9)

    def test_a_run_without_events(self):
        for count in range(1, 7):
            self.assert_some(("cut", (0,) * count), ((),) * count, ALWAYS, 1)
            self.assert_some(("closed", ((0,) * count,)), ((),) * count, NEVER, 1)
            self.assert_some(("closed", ((0,) * count,)), ((),) * count, ("way", 1), 1)

    def test_the_whole_cut(self):
        self.assert_some(("cut", (2, 2)), many_steps(2, 2), ("sum", ((1, 0, "a"), (1, 1, "a")), 4), 9)
        self.assert_some(("cut", (3,)), (setting("b", 5, 5, 6),), ("sum", ((1, 0, "b"),), 6), 4)

    def test_no_cuts_are_allowed(self):
        for most in (0, -1, -1000):
            self.assert_too_many(((),), ALWAYS, most)
            self.assert_too_many(LETTERS, NEVER, most)

    def test_the_bound_counts_all_cuts_also_if_the_first_one_fulfils_the_sentence(self):
        self.assert_some(("cut", (0, 0)), LETTERS, ALWAYS, 6)
        self.assert_some(("cut", (0,) * 3), many_steps(3, 4), ALWAYS, 125)

    def test_joint_sentences_and_sums(self):
        run = (setting("a", 1, 2), setting("a", 2))
        self.assert_some(("cut", (1, 1)), run, ("and", at_least(0, 1), at_least(1, 2)), 6)
        self.assert_some(("cut", (1, 1)), run, ("sum", ((1, 0, "a"), (1, 1, "a")), 3), 6)

    def test_made_questions(self):
        closed = 0
        for run, sentence in made_questions(61):
            cuts = slow_cuts(run)
            fitting = fulfilling(run, sentence)
            paper = ("cut", fitting[0]) if fitting else ("closed", tuple(cuts))
            self.assert_some(paper, run, sentence, len(cuts))
            closed += not fitting
        self.assertGreater(closed, 200)


class TestEveryFree(unittest.TestCase):

    def assert_closed(self, cuts, run, sentence):
        """Asserts the paper, and that the bound is the least one for it."""
        paper = ("closed", cuts)
        self.assertEqual(paper, every_free(Order(run), sentence, len(cuts)))
        self.assertEqual(kinds(paper), kinds(every_free(Order(run), sentence, len(cuts))))
        self.assertEqual(paper, every_free(Order(run), sentence, len(cuts) + 1))
        self.assert_too_many(run, sentence, len(cuts) - 1)

    def assert_path(self, run, sentence, most):
        """Asserts that there is an avoiding observation, and that the bound is the least one for finding it."""
        name, moves = every_free(Order(run), sentence, most)
        self.assertEqual("path", name)
        self.assertIs(tuple, type(moves))
        self.assertEqual({int} if moves else set(), {type(process) for process in moves})
        self.assertEqual(sum(len(row) for row in run), len(moves))
        cuts = slow_cuts(run)
        fitting = fulfilling(run, sentence)
        for cut in cuts_on_the_way(run, moves):
            self.assertIn(cut, cuts)
            self.assertNotIn(cut, fitting)
        self.assertEqual("path", every_free(Order(run), sentence, most + 1)[0])
        self.assert_too_many(run, sentence, most - 1)

    def assert_too_many(self, run, sentence, most):
        with self.assertRaises(TooMany):
            every_free(Order(run), sentence, most)

    def test_the_empty_cut_fulfils_the_sentence(self):
        for run in (((),), ((),) * 6, LETTERS, RUN_109, many_steps(6, 30)):
            self.assert_closed((), run, ALWAYS)
            self.assert_closed((), run, ("not", ("way", 1)))

    def test_a_run_without_events(self):
        for count in range(1, 7):
            self.assertEqual(("path", ()), every_free(Order(((),) * count), NEVER, 1))
            self.assert_path(((),) * count, ("way", 1), 1)

    def test_the_whole_cut_fulfils_the_sentence(self):
        run = many_steps(2, 2)
        both = ("sum", ((1, 0, "a"), (1, 1, "a")), 4)
        self.assert_closed(((0, 0), (0, 1), (1, 0), (0, 2), (1, 1), (2, 0), (1, 2), (2, 1)), run, both)

    def test_a_single_observation(self):
        run = (setting("a", 1, 2, 3),)
        self.assertEqual(("path", (0, 0, 0)), every_free(Order(run), at_least(0, 4), 4))
        self.assert_path(run, at_least(0, 4), 4)
        self.assert_closed(((0,), (1,)), run, ("and", at_least(0, 2), below(0, 3)))
        self.assert_closed(((0,), (1,), (2,)), run, at_least(0, 3))

    def test_letters_under_way(self):
        # The first letter can be taken before the second one is sent.
        self.assertEqual(("path", (0, 1, 0, 1)), every_free(Order(LETTERS), ("way", 2), 5))
        self.assert_path(LETTERS, ("way", 2), 5)
        self.assert_closed(((0, 0),), LETTERS, ("way", 1))
        self.assert_path(LETTERS, ("way", 3), 6)

    def test_cuts_that_are_not_avoiding_because_nothing_leads_to_them(self):
        # Each way to the other cuts goes by the one with one event of the first process.
        run = ((("send", 1, (("a", 1),)), ("step", (("a", 0),))), (("take", 1, ()),))
        self.assertEqual([(0, 0), (1, 0), (1, 1), (2, 0), (2, 1)], slow_cuts(run))
        self.assertEqual([(1, 0), (1, 1)], fulfilling(run, at_least(0, 1)))
        self.assert_closed(((0, 0),), run, at_least(0, 1))

    def test_some_of_the_cuts_of_a_size(self):
        run = many_steps(2, 2)
        self.assert_closed(((0, 0), (0, 1), (1, 0)), run, ("sum", ((1, 0, "a"), (1, 1, "a")), 2))
        self.assert_closed(((0, 0), (0, 1), (1, 0), (0, 2), (2, 0)), run, ("and", at_least(0, 1), at_least(1, 1)))
        self.assert_path(run, ("and", at_least(0, 1), ("and", at_least(1, 1), below(1, 2))), 7)

    def test_the_bound_counts_avoiding_cuts_only(self):
        # Of a run with very many cuts, only few are avoiding.
        order = Order(many_steps(6, 30))
        terms = tuple((1, process, "a") for process in range(6))
        name, cuts = every_free(order, ("sum", terms, 2), 7)
        self.assertEqual(("closed", 7), (name, len(cuts)))
        with self.assertRaises(TooMany):
            every_free(order, ("sum", terms, 2), 6)
        with self.assertRaises(TooMany):
            every_free(order, ("sum", terms, 10000), 1000)

    def test_a_path_needs_all_avoiding_cuts_below_the_bound(self):
        self.assert_path(many_steps(2, 4), NEVER, 25)
        self.assert_path(many_steps(3, 2), NEVER, 27)

    def test_no_cuts_are_allowed(self):
        self.assertEqual(("closed", ()), every_free(Order(LETTERS), ALWAYS, 0))
        self.assert_too_many(LETTERS, ALWAYS, -1)
        for most in (0, -1, -1000):
            self.assert_too_many(LETTERS, NEVER, most)
            self.assert_too_many(((),), NEVER, most)

    def test_processes_that_meet(self):
        meeting = ("and", at_least(0, 1), at_least(1, 1))
        self.assert_closed(((0, 0), (0, 1), (1, 0)), MEETING_OF_TWO, meeting)
        self.assertFalse(is_avoidable(MEETING_OF_TWO, meeting))

    def test_made_questions(self):
        paths = 0
        middle = 0
        for run, sentence in made_questions(62):
            avoiding = avoiding_cuts(run, sentence)
            if is_avoidable(run, sentence):
                paths += 1
                self.assert_path(run, sentence, len(avoiding))
            else:
                middle += 1 < len(avoiding) < len(slow_cuts(run)) - 1
                self.assert_closed(tuple(avoiding), run, sentence)
        self.assertGreater(paths, 300)
        self.assertGreater(middle, 50)

    def test_each_observation_passes_a_cut_of_each_size(self):
        for run in (CROSSING, RUN_109, LETTERS, many_steps(3, 2)):
            run = counted(run)
            for size in range(1 + sum(len(row) for row in run)):
                self.assert_closed(tuple(cut for cut in slow_cuts(run) if sum(cut) < size), run, of_size(run, size))


class TestBoth(unittest.TestCase):

    def test_earlier_calls_do_not_matter(self):
        numbers = Numbers(63)
        for run in (CROSSING, many_steps(3, 3), RUN_109):
            order = Order(run)
            sentences = tuple(made_sentence(numbers, 3, numbers.between(1, 5)) for _ in range(20))
            told = kinds(sentences)
            for free in (some_free, every_free):
                there = [free(order, sentence, 1000) for sentence in sentences]
                back = [free(order, sentence, 1000) for sentence in reversed(sentences)]
                self.assertEqual(there, back[::-1])
                self.assertEqual(there, [free(Order(run), sentence, 1000) for sentence in sentences])
                with self.assertRaises(TooMany):
                    free(order, NEVER, 3)
                self.assertEqual(there, [free(order, sentence, 1000) for sentence in sentences])
            self.assertEqual(told, kinds(sentences))

    def test_large_runs(self):
        for run in (many_steps(6, 30), many_steps(2, 30), ((EMPTY_STEP,) * 30,) * 3):
            for free in (some_free, every_free):
                begin = time.process_time()
                try:
                    free(Order(run), NEVER, 5000)
                except CutError as error:
                    self.assertIs(TooMany, type(error))
                self.assertLess(time.process_time() - begin, 3)

    def test_beyond_the_limits(self):
        order = Order(LETTERS)
        self.assertEqual(("cut", (0, 0)), some_free(order, ("or", ("at", 7, "a", 0), ("way", 1000)), 6))
        self.assertEqual(("closed", CUTS_OF_LETTERS), some_free(order, ("and", ("way", 0), ("at", 2, "a", 1)), 10 ** 30))
        self.assertEqual(("closed", ()), every_free(order, ("sum", ((99, -1, "a"),) * 9, 0), 6))
        self.assertEqual("path", every_free(order, ("not", ("not", ("not", ("not", ("not", ("not", NEVER)))))), 6)[0])


if __name__ == "__main__":
    unittest.main()
