"""Points 700 and 701: telling, and promises 6.1 and 6.2 about what is told."""

import time
import unittest

from cutpapers.errors import TooMany
from cutpapers.free import every_free, some_free
from cutpapers.joint import every_joint, some_joint
from cutpapers.judge import takes
from cutpapers.order import Order
from cutpapers.sums import some_sum
from cutpapers.tell import tell
from tests.papers import slow_kind
from tests.samples import CROSSING, MEETING_OF_TWO, RUN_109, all_of, at_least, below, kinds, many_steps, setting, slow_cuts
from tests.searches import Numbers, avoiding_cuts, large_runs, made_at, made_questions, made_sentence, made_terms, slow_answer

TWO = (setting("a", 1, 2), setting("a", 2))


class TestTell(unittest.TestCase):

    def assert_told(self, expected, run, question, sentence, most):
        self.assertEqual(expected, tell(Order(run), question, sentence, most))
        self.assertEqual(kinds(expected), kinds(tell(Order(run), question, sentence, most)))

    def test_joint(self):
        self.assert_told((True, ("cut", (1, 1))), TWO, "some", all_of(at_least(0, 1), at_least(1, 2)), 0)
        self.assert_told((False, ("wall", (("false", 1), ("false", 1)))), TWO, "some", at_least(1, 3), 0)
        self.assert_told((True, ("stretches", ((1, 2), (0, 1)))), TWO, "every", at_least(0, 1), 0)
        self.assert_told((False, ("path", (0, 0, 1))), TWO, "every", at_least(0, 3), 0)

    def test_a_sum(self):
        terms = ((1, 0, "a"), (1, 1, "a"))
        self.assert_told((True, ("cut", (2, 1))), TWO, "some", ("sum", terms, 4), 0)
        self.assert_told((False, ("flow", ())), TWO, "some", ("sum", terms, 5), 0)
        closed = ("closed", ((0, 0), (0, 1), (1, 0), (1, 1), (2, 0)))
        self.assert_told((True, closed), TWO, "every", ("sum", terms, 4), 5)
        answer, paper = tell(Order(TWO), "every", ("sum", terms, 5), 6)
        self.assertEqual((False, "path"), (answer, paper[0]))

    def test_a_free_sentence(self):
        run = ((("send", 1, ()),), (("take", 1, ()),))
        self.assert_told((True, ("cut", (1, 0))), run, "some", ("way", 1), 3)
        self.assert_told((False, ("closed", ((0, 0), (1, 0), (1, 1)))), run, "some", ("way", 2), 3)
        self.assert_told((True, ("closed", ((0, 0),))), run, "every", ("way", 1), 1)
        self.assert_told((False, ("path", (0, 1))), run, "every", ("way", 2), 3)

    def test_a_run_without_events(self):
        run = ((), ())
        for question in ("some", "every"):
            for sentence in (at_least(0, 1), ("sum", ((1, 0, "a"),), 1), ("way", 1)):
                self.assertIs(False, tell(Order(run), question, sentence, 1)[0])
            for sentence in (at_least(0, 0), ("sum", ((1, 0, "a"),), 0), ("way", 0)):
                self.assertIs(True, tell(Order(run), question, sentence, 1)[0])
        self.assert_told((True, ("stretches", ((0, 0), (0, 0)))), run, "every", at_least(0, 0), 0)
        self.assert_told((True, ("closed", ())), run, "every", ("way", 0), 0)
        self.assert_told((False, ("path", ())), run, "every", ("way", 1), 1)

    def test_processes_that_meet(self):
        meeting = all_of(at_least(0, 1), at_least(1, 1))
        self.assert_told((True, ("stretches", ((1, 1), (1, 1)))), MEETING_OF_TWO, "every", meeting, 0)
        free = ("or", meeting, ("way", 3))
        self.assert_told((True, ("closed", ((0, 0), (0, 1), (1, 0)))), MEETING_OF_TWO, "every", free, 3)

    def test_the_part_that_is_asked(self):
        # The papers of the parts differ, although the answers are the same.
        order = Order(TWO)
        joint = all_of(at_least(0, 3), at_least(1, 1))
        self.assertEqual("wall", tell(order, "some", joint, 6)[1][0])
        self.assertEqual("closed", some_free(order, joint, 6)[0])
        joint = all_of(at_least(0, 1), at_least(1, 0))
        self.assertEqual("stretches", tell(order, "every", joint, 6)[1][0])
        self.assertEqual("closed", every_free(order, joint, 6)[0])
        total = ("sum", ((1, 0, "a"), (-1, 1, "a")), 0)
        self.assertEqual(("cut", (2, 0)), tell(order, "some", total, 6)[1])
        self.assertEqual(("cut", (0, 0)), some_free(order, total, 6))

    def test_made_questions(self):
        for run, sentence in made_questions(71):
            order = Order(run)
            word = slow_kind(sentence)
            many = len(slow_cuts(run))
            some = {"joint": some_joint, "sum": some_sum}.get(word, lambda *told: some_free(*told, many))
            every = {"joint": every_joint}.get(word, lambda *told: every_free(*told, many))
            for question, part in (("some", some), ("every", every)):
                answer, paper = tell(order, question, sentence, many)
                self.assertEqual(part(order, sentence), paper, (run, question, sentence))
                self.assertIs(slow_answer(run, question, sentence), answer, (run, question, sentence))
                self.assertIs(True, takes(order, question, sentence, answer, paper), (run, question, sentence))
                self.assertIs(False, takes(order, question, sentence, not answer, paper), (run, question, sentence))

    def test_too_many(self):
        raised = 0
        for run, sentence in made_questions(72):
            order = Order(run)
            word = slow_kind(sentence)
            needed = {
                "some": len(slow_cuts(run)) if word == "free" else None,
                "every": None if word == "joint" else len(avoiding_cuts(run, sentence)),
            }
            for question, many in needed.items():
                told = tell(order, question, sentence, 10 ** 6)
                if many is None:
                    self.assertEqual(told, tell(order, question, sentence, -1))
                    continue
                raised += 1
                self.assertEqual(told, tell(order, question, sentence, many))
                with self.assertRaises(TooMany):
                    tell(order, question, sentence, many - 1)
        self.assertGreater(raised, 500)

    def test_earlier_calls_do_not_matter(self):
        numbers = Numbers(73)
        for run in (CROSSING, RUN_109, many_steps(3, 3)):
            sentences = [made_sentence(numbers, 3, numbers.between(1, 5)) for _ in range(12)]
            sentences += [("sum", made_terms(numbers, 3), numbers.between(-4, 8)) for _ in range(4)]
            sentences += [all_of(made_at(numbers, 0), made_at(numbers, 2)) for _ in range(4)]
            asked = tuple((question, sentence, 1000) for sentence in sentences for question in ("some", "every"))
            told = kinds(asked)
            order = Order(run)
            there = [tell(order, *question) for question in asked]
            back = [tell(order, *question) for question in reversed(asked)]
            self.assertEqual(there, back[::-1])
            self.assertEqual(there, [tell(Order(run), *question) for question in asked])
            self.assertEqual(told, kinds(asked))

    def test_large_runs(self):
        numbers = Numbers(74)
        for run in large_runs() + [many_steps(6, 30)]:
            order = Order(run)
            begin = time.process_time()
            asked = [("some", ("sum", made_terms(numbers, 6), numbers.one_of([-50, 1, 30, 100000]))) for _ in range(3)]
            for _ in range(3):
                limbs = [numbers.one_of([at_least, below])(process, numbers.between(-2, 2)) for process in range(5)]
                asked += [("some", all_of(*limbs)), ("every", all_of(*limbs)), ("every", all_of(*limbs[:2]))]
            for question, sentence in asked:
                answer, paper = tell(order, question, sentence, 0)
                self.assertIs(True, takes(order, question, sentence, answer, paper))
                self.assertIs(False, takes(order, question, sentence, not answer, paper))
            self.assertLess(time.process_time() - begin, 3)

    def test_beyond_the_limits(self):
        order = Order(TWO)
        deep = at_least(0, 1)
        for _ in range(40):
            deep = ("not", deep)
        total = ("sum", ((100, 0, "a"),) * 20, 10 ** 9)
        for sentence in (deep, total, ("way", 10 ** 6), ("and", ("way", -1), at_least(0, 10 ** 9))):
            for question in ("some", "every"):
                answer, paper = tell(order, question, sentence, 10 ** 9)
                self.assertIs(True, takes(order, question, sentence, answer, paper))
        # A process that the run does not have counts as one without events.
        for process in (-1, 2, 7):
            joint = all_of(at_least(0, 1), below(process, 1))
            for sentence in (at_least(process, 0), joint, ("sum", ((1, process, "a"),), 0)):
                for question in ("some", "every"):
                    answer, paper = tell(order, question, sentence, 6)
                    self.assertIs(True, answer)
                    self.assertIs(True, takes(order, question, sentence, True, paper))
            joint = all_of(at_least(0, 1), at_least(process, 1))
            for sentence in (at_least(process, 1), joint, ("sum", ((1, process, "a"),), 1)):
                for question in ("some", "every"):
                    answer, paper = tell(order, question, sentence, 6)
                    self.assertIs(False, answer)
                    self.assertIs(True, takes(order, question, sentence, False, paper))


if __name__ == "__main__":
    unittest.main()
