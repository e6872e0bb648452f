"""Points 702 to 708: judging, and promise 6.3."""

import time
import unittest
from itertools import product

from cutpapers.free import every_free, some_free
from cutpapers.judge import takes
from cutpapers.order import Order
from cutpapers.tell import tell
from tests.papers import NAMES, SlowJudge, varied
from tests.samples import EMPTY_STEP, MEETING_OF_TWO, Hostile, HostileInt, HostileStr, HostileTuple, all_of, at_least, below
from tests.samples import kinds, many_steps, other_values, replaced, setting, shown, slow_cuts, step
from tests.searches import Numbers, counted, large_runs, made_questions, made_run, of_size, slow_answer, slow_sum

# The first process sends to the second one, before it sets a = 2.
SENDING = ((step(a=1), ("send", 1, ()), step(a=2)), (("take", 1, (("a", 5),)), step(a=0)))
CUTS_OF_SENDING = ((0, 0), (1, 0), (2, 0), (2, 1), (3, 0), (2, 2), (3, 1), (3, 2))
PATH_OF_SENDING = (0, 0, 1, 0, 1)

# Two winning and two losing events: the first process loses 3, and then 4, and
# each of the others wins 5 behind one of its letters.
LOSING = ((("send", 1, (("a", -3),)), ("send", 2, (("a", -7),))), (("take", 1, (("a", 5),)),), (("take", 2, (("a", 5),)),))
TERMS_OF_LOSING = ((1, 0, "a"), (1, 1, "a"), (1, 2, "a"))

QUESTIONS = ("some", "every")
NEVER = ("not", ("way", 0))


class PaperTest(unittest.TestCase):

    def assert_taken(self, run, question, sentence, answer, paper):
        """Asserts that the paper is taken, and shows nothing else."""
        order = Order(run)
        self.assertIs(True, takes(order, question, sentence, answer, paper), (sentence, paper))
        self.assertIs(False, takes(order, question, sentence, not answer, paper), (sentence, paper))
        other = "every" if question == "some" else "some"
        if paper[0] != "closed":
            self.assertIs(False, takes(order, other, sentence, answer, paper), (sentence, paper))
            self.assertIs(False, takes(order, other, sentence, not answer, paper), (sentence, paper))
        for name in NAMES + ("", "Cut", "cut ", "at"):
            if name != paper[0]:
                self.assertIs(False, takes(order, question, sentence, answer, (name, paper[1])), (sentence, name, paper))
        self.assert_form_matters(order, question, sentence, answer, paper)

    def assert_form_matters(self, order, question, sentence, answer, paper):
        name, told = paper
        wrong = [list(paper), (name, list(told)), (name,), (name, told, told), (told, name), (name, (told,)), told, name, ()]
        wrong += [(name, dict.fromkeys(told)), (list(name), told), (name.encode(), told), ((name,), told), [paper], (paper,)]
        # The empty tuple can be right: it is tested elsewhere.
        others = [other for other in other_values() if type(other) is not tuple or len(other) > 0]
        for value in wrong + other_values() + [(name, other) for other in others]:
            self.assertIs(False, takes(order, question, sentence, answer, value), shown(value))
        for value in other_values() + [1, 0, "True", "some", (answer,), [answer], int(answer), float(answer), not answer]:
            if value is not answer:
                self.assertIs(False, takes(order, question, sentence, value, paper), shown(value))

    def assert_refused(self, run, question, sentence, answer, *papers):
        for paper in papers:
            self.assertIs(False, takes(Order(run), question, sentence, answer, paper), (sentence, shown(paper)))

    def assert_told_refused(self, run, question, sentence, answer, name, *wrong):
        """Asserts that papers of this name are not taken."""
        self.assert_refused(run, question, sentence, answer, *[(name, told) for told in wrong])


class TestTable(PaperTest):

    def test_each_row(self):
        papers = {
            ("some", at_least(1, 5)): (True, ("cut", (2, 1))),
            ("some", at_least(1, 6)): (False, ("wall", (("false", 1),) * 3)),
            ("some", ("sum", ((2, 0, "a"), (1, 1, "a")), 9)): (True, ("cut", (3, 1))),
            ("some", ("sum", ((2, 0, "b"), (1, 1, "a")), 6)): (False, ("flow", ())),
            ("some", ("way", 1)): (True, ("cut", (3, 0))),
            ("some", ("way", 2)): (False, ("closed", CUTS_OF_SENDING)),
            ("every", at_least(0, 1)): (True, ("stretches", ((1, 3), (0, 2)))),
            ("every", at_least(0, 3)): (False, ("path", PATH_OF_SENDING)),
            ("every", ("way", 1)): (True, ("closed", ((0, 0), (1, 0)))),
            ("every", ("way", 2)): (False, ("path", (0, 0, 0, 1, 1))),
        }
        for (question, sentence), (answer, paper) in papers.items():
            self.assert_taken(SENDING, question, sentence, answer, paper)

    def test_closed_papers_for_joint_sentences_and_sums(self):
        for sentence in (at_least(1, 6), ("sum", ((1, 0, "a"), (1, 1, "a")), 8)):
            self.assert_taken(SENDING, "some", sentence, False, ("closed", CUTS_OF_SENDING))
        for sentence in (at_least(0, 2), ("sum", ((1, 0, "a"),), 2)):
            self.assert_taken(SENDING, "every", sentence, True, ("closed", ((0, 0), (1, 0), (2, 0), (2, 1), (2, 2))))

    def test_papers_for_sentences_of_another_kind(self):
        sentence = ("and", at_least(1, 6), ("way", 0))
        self.assert_refused(SENDING, "some", sentence, False, ("wall", (("false", 1),) * 3))
        self.assert_refused(SENDING, "some", ("sum", ((1, 1, "a"),), 6), False, ("wall", (("false", 1),) * 3))
        self.assert_refused(SENDING, "some", at_least(1, 6), False, ("flow", ()))
        self.assert_refused(SENDING, "some", ("and", ("sum", ((1, 1, "a"),), 6), ("way", 0)), False, ("flow", ()))
        self.assert_refused(SENDING, "some", ("not", ("not", ("sum", ((1, 1, "a"),), 6))), False, ("flow", ()))
        stretches = ("stretches", ((1, 3), (0, 2)))
        self.assert_refused(SENDING, "every", ("and", at_least(0, 1), ("way", 0)), True, stretches)
        self.assert_refused(SENDING, "every", ("sum", ((1, 0, "a"),), 1), True, stretches)
        self.assert_refused(SENDING, "every", ("or", at_least(0, 1), at_least(1, 9)), True, stretches)

    def test_a_run_without_events(self):
        for count in range(1, 7):
            run = ((),) * count
            empty = (0,) * count
            self.assert_taken(run, "some", at_least(0, 0), True, ("cut", empty))
            self.assert_taken(run, "some", at_least(count - 1, 1), False, ("wall", (("false", count - 1),)))
            self.assert_taken(run, "some", ("sum", ((1, 0, "a"),), 1), False, ("flow", ()))
            self.assert_taken(run, "some", ("way", 1), False, ("closed", (empty,)))
            self.assert_taken(run, "every", at_least(0, 0), True, ("stretches", ((0, 0),) * count))
            self.assert_taken(run, "every", ("way", 0), True, ("closed", ()))
            self.assert_taken(run, "every", ("way", 1), False, ("path", ()))
            self.assert_refused(run, "every", ("way", 0), False, ("path", ()))
            self.assert_refused(run, "every", ("way", 1), True, ("closed", ()), ("closed", (empty,)))
            self.assert_refused(run, "some", ("way", 1), False, ("closed", ()))
            self.assert_refused(run, "some", ("way", 0), False, ("closed", ()), ("closed", (empty,)))


class TestCut(PaperTest):

    def test_each_cut_that_fulfils_the_sentence(self):
        for cut in product(range(-1, 5), repeat=2):
            taken = takes(Order(SENDING), "some", ("way", 1), True, ("cut", cut))
            self.assertIs(cut in ((2, 0), (3, 0)), taken, cut)
            taken = takes(Order(SENDING), "some", at_least(0, -1000), True, ("cut", cut))
            self.assertIs(cut in CUTS_OF_SENDING, taken, cut)

    def test_what_is_no_cut(self):
        wrong = [(), (2,), (2, 0, 0), [2, 0], (2, False), (2.0, 0), ("2", "0"), ((2, 0),), (4, 0), (2, -1), (1, 1), (-1, 0)]
        self.assert_told_refused(SENDING, "some", ("or", ("way", 1), at_least(0, 0)), True, "cut", *wrong)
        self.assert_told_refused(many_steps(2, 1), "some", at_least(0, 1), True, "cut", (True, 0), (1, False), (HostileInt(1), 0))


class TestWall(PaperTest):

    def test_false_and_needs(self):
        # The second process has a = 5 only when the first one is beyond a < 1.
        sentence = all_of(below(0, 1), at_least(1, 5))
        rows = (("false", 1), ("needs", 0, 1), ("false", 0), ("false", 0), ("false", 0))
        self.assert_taken(SENDING, "some", sentence, False, ("wall", rows))
        rows = (("false", 1), ("needs", 0, 1), ("needs", 0, 1), ("false", 0), ("false", 0))
        self.assert_taken(SENDING, "some", sentence, False, ("wall", rows))
        self.assert_told_refused(
            SENDING, "some", sentence, False, "wall",
            rows[1:], rows[:1] + rows[2:], rows[:2] + rows[3:], rows[:3] + rows[4:], rows[:4],
            rows[:4] + (("false", 1),), rows + (("false", 0),), rows + (("false", 1),), rows[:1] * 2 + rows[1:],
            rows[:1] + (("needs", 1, 0),) + rows[1:], rows[:3] + (("needs", 0, 1),) + rows[4:], rows[::-1],
            (("needs", 1, 1),) + rows, (("needs", 0, 0),) + rows, (("false", 0),) + rows,
        )

    def test_rows_in_another_order_than_that_of_telling(self):
        run = (setting("a", 1), setting("a", 1, 2))
        sentence = all_of(at_least(0, 2), at_least(1, 3))
        for rows in ((0, 0), (0, 1, 0), (1, 0, 1, 0), (1, 1, 0, 0), (1, 1, 1), (0, 1, 1, 1)):
            self.assert_taken(run, "some", sentence, False, ("wall", tuple(("false", process) for process in rows)))
        for rows in ((0,), (1, 1), (0, 1), (0, 1, 1), (0, 0, 0), (0, 0, 1), (1, 1, 1, 1), (1, 1, 1, 0), (1, 0, 0, 1)):
            self.assert_refused(run, "some", sentence, False, ("wall", tuple(("false", process) for process in rows)))

    def test_an_empty_one(self):
        self.assert_refused(SENDING, "some", at_least(1, 6), False, ("wall", ()))
        self.assert_refused(((), ()), "some", at_least(1, 6), False, ("wall", ()))

    def test_a_row_that_does_not_apply_because_the_state_fulfils_the_part(self):
        self.assert_told_refused(
            SENDING, "some", at_least(1, 5), False, "wall", (("false", 1),) * 3, (("false", 1),) * 2, (("false", 0),) * 4,
        )
        # A process of which the sentence says nothing fulfils its part always.
        self.assert_refused(SENDING, "some", at_least(1, 6), False, ("wall", (("false", 0),) * 4))

    def test_wrong_items(self):
        good = (("false", 1),) * 2
        for row in (
            ("false", True), ("false", 1.0), ("false", "1"), ("false", -1), ("false", 2), ("false",), ("false", 1, 0),
            ("needs", 1), ("needs", 1, True), ("needs", True, 1), ("needs", 2, 1), ("needs", 1, 2), ("needs", -1, 1),
            ("false", None), (1, "false"), (), None, "false", 1, (b"false", 1), (None, 1), ("needs", 1, 0, 0), ("False", 1),
            ["false", 1], ("false", (1,)), Hostile(), (Hostile(), 1), ("false", Hostile()), ("false", HostileInt(1)),
            (HostileStr("false"), 1), HostileTuple(("false", 1)), ("needs", Hostile(), 1), ("needs", 0, Hostile()),
            ("needs", 0, []), ("false", 10 ** 30),
        ):
            wrong = [good + (row,), (row,) + good, good + (("false", 1), row), (row,) * 3]
            self.assert_told_refused(SENDING, "some", at_least(1, 6), False, "wall", *wrong)

    def test_needs_beyond_the_row_or_at_event_0(self):
        run = ((("send", 1, ()), ("send", 2, ())), (("take", 1, ()), ("take", 2, ())))
        sentence = all_of(at_least(0, 1), at_least(1, 1))
        self.assert_taken(run, "some", sentence, False, ("wall", (("false", 1),) * 3))
        self.assert_taken(run, "some", sentence, False, ("wall", (("false", 1), ("needs", 0, 1), ("false", 1), ("false", 1))))
        rows = (("false", 1), ("false", 1), ("needs", 0, 1), ("needs", 0, 1), ("false", 1))
        self.assert_taken(run, "some", sentence, False, ("wall", rows))
        self.assert_told_refused(
            run, "some", sentence, False, "wall", (("needs", 0, 1),) + rows, rows[:2] + (("needs", 0, 1),) * 3 + rows[4:],
            (("false", 1), ("needs", 0, 1), ("needs", 0, 1), ("false", 1), ("false", 1)), rows[:4] + (("needs", 0, 1),),
        )


class TestFlow(PaperTest):

    def sum(self, bound):
        return ("sum", TERMS_OF_LOSING, bound)

    def test_flows(self):
        # The greatest sum is 3: 10 less the 7 that are lost before.
        best = ((1, 1, 0, 1, 3), (2, 1, 0, 2, 4))
        self.assert_taken(LOSING, "some", self.sum(4), False, ("flow", best))
        self.assert_taken(LOSING, "some", self.sum(4), False, ("flow", best[::-1]))
        self.assert_taken(LOSING, "some", self.sum(100), False, ("flow", best))
        self.assert_refused(LOSING, "some", self.sum(3), False, ("flow", best))
        self.assert_taken(LOSING, "some", self.sum(4), False, ("flow", ((2, 1, 0, 1, 1), (2, 1, 0, 2, 4), (1, 1, 0, 1, 2))))

    def test_the_bound(self):
        for rows, left in (((), 10), (((1, 1, 0, 1, 2),), 8), (((2, 1, 0, 2, 4),), 6), (((2, 1, 0, 2, 4), (2, 1, 0, 1, 1)), 5)):
            self.assert_taken(LOSING, "some", self.sum(left + 1), False, ("flow", rows))
            self.assert_refused(LOSING, "some", self.sum(left), False, ("flow", rows))
            self.assert_refused(LOSING, "some", self.sum(left - 1), False, ("flow", rows))

    def test_gains_and_losses_of_1(self):
        run = ((step(a=-1), step(a=0)),)
        for bound, rows in ((2, ()), (1, ((0, 2, 0, 1, 1),))):
            self.assert_taken(run, "some", ("sum", ((1, 0, "a"),), bound), False, ("flow", rows))
            self.assert_refused(run, "some", ("sum", ((1, 0, "a"),), bound - 1), False, ("flow", rows))

    def test_the_greatest_flows_of_made_runs(self):
        numbers = Numbers(80)
        flows = 0
        for turn in range(120):
            count = 1 + turn % 4
            run = made_run(numbers, [12 // count] * count, 9)
            terms = tuple((numbers.between(-2, 2), place % count, "abcd"[place % 4]) for place in range(6))
            order = Order(run)
            best = max(slow_sum(run, cut, terms) for cut in slow_cuts(run))
            answer, paper = tell(order, "some", ("sum", terms, best + 1), 0)
            self.assertIs(False, answer)
            self.assertIs(True, takes(order, "some", ("sum", terms, best + 1), False, paper))
            self.assertIs(False, takes(order, "some", ("sum", terms, best), False, paper))
            flows += len(paper[1]) > 1
        self.assertGreater(flows, 40)

    def assert_rows_refused(self, *papers):
        self.assert_told_refused(LOSING, "some", self.sum(100000), False, "flow", *papers)

    def test_amounts_below_1(self):
        self.assert_rows_refused(((1, 1, 0, 1, 0),), ((1, 1, 0, 1, -1),), ((1, 1, 0, 1, 3), (2, 1, 0, 2, 0)))

    def test_amounts_beyond_a_gain_or_a_loss(self):
        self.assert_taken(LOSING, "some", self.sum(8), False, ("flow", ((1, 1, 0, 1, 3),)))
        self.assert_rows_refused(
            ((1, 1, 0, 1, 4),), ((2, 1, 0, 2, 5),), ((2, 1, 0, 1, 3), (2, 1, 0, 2, 3)), ((2, 1, 0, 2, 3), (2, 1, 0, 1, 3)),
            ((1, 1, 0, 1, 2), (2, 1, 0, 1, 2)), ((2, 1, 0, 1, 2), (1, 1, 0, 1, 2)), ((1, 1, 0, 1, 10 ** 30),),
        )

    def test_events_that_neither_win_nor_lose_or_do_the_wrong_one(self):
        run = ((step(a=-3), EMPTY_STEP, step(a=0)), (step(a=4),))
        terms = ((1, 0, "a"), (1, 1, "a"))
        self.assert_taken(run, "some", ("sum", terms, 8), False, ("flow", ()))
        self.assert_taken(run, "some", ("sum", terms, 7), False, ("flow", ((0, 3, 0, 1, 1),)))
        self.assert_told_refused(
            run, "some", ("sum", terms, 100), False, "flow", ((0, 2, 0, 1, 1),), ((0, 3, 0, 2, 1),), ((0, 1, 0, 3, 1),),
            ((0, 1, 0, 1, 1),), ((0, 3, 0, 3, 1),), ((1, 1, 0, 3, 1),), ((0, 2, 0, 2, 1),),
        )

    def test_a_losing_event_that_is_not_before_the_winning_one(self):
        run = ((step(a=-3), step(a=0), step(a=-5)), (step(a=4),))
        terms = ((1, 0, "a"), (1, 1, "a"))
        self.assert_told_refused(
            run, "some", ("sum", terms, 100), False, "flow", ((1, 1, 0, 1, 1),), ((0, 2, 0, 3, 1),), ((1, 1, 0, 3, 1),),
        )
        self.assert_rows_refused(((1, 1, 0, 2, 1),))

    def test_two_rows_with_the_same_events(self):
        self.assert_rows_refused(
            ((1, 1, 0, 1, 1), (1, 1, 0, 1, 1)), ((1, 1, 0, 1, 1), (1, 1, 0, 1, 2)),
            ((1, 1, 0, 1, 1), (2, 1, 0, 2, 1), (1, 1, 0, 1, 2)),
        )

    def test_wrong_items(self):
        good = (1, 1, 0, 1, 1)
        values = (True, False, None, 1.0, "1", -1, 9, 10 ** 30, (1,), [1], Hostile(), HostileInt(1))
        for place, value in product(range(5), values):
            self.assert_rows_refused((good[:place] + (value,) + good[place + 1:],))
        for row in (good[:4], good + (1,), list(good), (), None, "row", (good,), 1, True, Hostile(), HostileTuple(good)):
            self.assert_rows_refused((row,), ((2, 1, 0, 2, 1), row), (row, (2, 1, 0, 2, 1)))
        self.assert_rows_refused(good, list((good,)), None, 5)

    def test_events_beyond_the_rows(self):
        for place in ((1, 2), (1, 0), (1, -1), (3, 1), (-1, 1)):
            self.assert_rows_refused((place + (0, 1, 1),))
        for place in ((0, 3), (0, 0), (0, -1), (3, 1), (-1, 1)):
            self.assert_rows_refused(((1, 1) + place + (1,),))


class TestClosed(PaperTest):

    def test_some(self):
        sentence = ("way", 2)
        for cuts in (CUTS_OF_SENDING, CUTS_OF_SENDING[::-1], CUTS_OF_SENDING * 3, CUTS_OF_SENDING[3:] + CUTS_OF_SENDING[:5]):
            self.assert_taken(SENDING, "some", sentence, False, ("closed", cuts))

    def test_a_cut_that_is_missing(self):
        for place, cut in enumerate(CUTS_OF_SENDING):
            cuts = CUTS_OF_SENDING[:place] + CUTS_OF_SENDING[place + 1:]
            self.assert_refused(SENDING, "some", ("way", 2), False, ("closed", cuts), ("closed", cuts * 2))
            self.assert_refused(SENDING, "every", ("way", 2), True, ("closed", cuts))
            # The sentence that only this cut fulfils; it's missing for "some".
            here = all_of(("sum", ((1, 0, "a"),), cut[0]), ("sum", ((1, 1, "a"),), cut[1]))
            beyond = ("not", ("or", ("sum", ((1, 0, "a"),), cut[0] + 1), ("sum", ((1, 1, "a"),), cut[1] + 1)))
            self.assert_taken(counted(SENDING), "some", ("and", here, beyond), True, ("cut", cut))
            self.assert_refused(
                counted(SENDING), "some", ("and", here, beyond), False, ("closed", cuts), ("closed", CUTS_OF_SENDING),
            )
        self.assert_refused(SENDING, "some", ("way", 2), False, ("closed", ()))

    def test_every(self):
        first = ((0, 0), (1, 0))
        for cuts in (first, first[::-1], first * 2):
            self.assert_taken(SENDING, "every", ("way", 1), True, ("closed", cuts))
        # There may also be cuts to which no observation comes that avoids the sentence.
        either = ("or", ("way", 1), all_of(at_least(0, 2), below(1, 1)))
        for cuts in (first, first + ((3, 1),), first + ((2, 2), (3, 1)), ((2, 2),) + first, first + ((2, 1), (3, 1), (2, 2))):
            self.assert_taken(SENDING, "every", either, True, ("closed", cuts))
        for cuts in (first + ((2, 1),), first + ((2, 1), (3, 1)), first + ((2, 1), (2, 2)), ((2, 2), (3, 1))):
            self.assert_refused(SENDING, "every", either, True, ("closed", cuts))
        self.assert_told_refused(
            SENDING, "every", ("way", 1), True, "closed",
            (), first[:1], first[1:], first + ((2, 0),), first + ((3, 0),), first + ((2, 1),), first + ((2, 1), (3, 1)),
            first + ((2, 1), (3, 1), (2, 2), (3, 2)), first + ((3, 2),), CUTS_OF_SENDING, first + ((1, 1),), first + ((4, 0),),
        )

    def test_the_whole_cut(self):
        # All cuts, and no cut fulfils the sentence: not for "every".
        self.assert_refused(SENDING, "every", ("way", 2), True, ("closed", CUTS_OF_SENDING))
        self.assert_refused(SENDING, "every", NEVER, True, ("closed", CUTS_OF_SENDING), ("closed", ()))
        last = ("sum", ((1, 0, "a"), (1, 1, "a")), 5)
        self.assert_taken(counted(SENDING), "every", last, True, ("closed", CUTS_OF_SENDING[:-1]))
        self.assert_refused(counted(SENDING), "every", last, True, ("closed", CUTS_OF_SENDING))

    def test_the_empty_cut(self):
        self.assert_taken(SENDING, "every", ("way", 0), True, ("closed", ()))
        self.assert_taken(SENDING, "every", ("not", ("way", 1)), True, ("closed", ()))
        self.assert_taken(SENDING, "every", ("not", ("way", 1)), True, ("closed", ((2, 0), (3, 0))))
        self.assert_refused(SENDING, "every", ("not", ("way", 1)), True, ("closed", ((0, 0),)))
        self.assert_refused(SENDING, "some", ("not", ("way", 1)), False, ("closed", ()), ("closed", ((2, 0), (3, 0))))
        self.assert_refused(SENDING, "some", ("way", 0), False, ("closed", ()), ("closed", CUTS_OF_SENDING))

    def test_what_is_no_cut(self):
        for value in ((1, 1), (0, 1), (4, 0), (3, 3), (0, -1), (0,), (0, 0, 0), (), [0, 0], (0, False), (0.0, 0), None, 0, "cut",
                      ((0, 0),), Hostile(), (Hostile(), 0), HostileTuple((0, 0)), (0, HostileInt(0)), [[0]], {}, (10 ** 30, 0)):
            for cuts in (CUTS_OF_SENDING + (value,), (value,) + CUTS_OF_SENDING, (value,)):
                self.assert_refused(SENDING, "some", ("way", 2), False, ("closed", cuts))
            wrong = [((0, 0), (1, 0), value), (value, (0, 0), (1, 0))]
            self.assert_told_refused(SENDING, "every", ("way", 1), True, "closed", *wrong)
            self.assert_told_refused(SENDING, "every", ("way", 0), True, "closed", (value,))

    def test_each_set_of_cuts(self):
        run = ((("send", 1, ()), step(a=1)), (("take", 1, ()),))
        cuts = [(0, 0), (1, 0), (1, 1), (2, 0), (2, 1)]
        for sentence in (("way", 1), ("way", 2), at_least(0, 1), ("or", at_least(0, 1), ("way", 1)), ("sum", ((1, 0, "a"),), 1)):
            slow = SlowJudge(run, sentence)
            taken = 0
            for chosen in product((False, True), repeat=len(cuts)):
                paper = ("closed", tuple(cut for cut, inside in zip(cuts, chosen) if inside))
                for question, answer in product(QUESTIONS, (False, True)):
                    told = takes(Order(run), question, sentence, answer, paper)
                    self.assertIs(slow.takes(question, answer, paper), told, (question, sentence, answer, paper))
                    taken += told
                    self.assertTrue(not told or slow_answer(run, question, sentence) is answer)
            self.assertGreater(taken, 0)


class TestStretches(PaperTest):

    def test_stretches(self):
        run = (setting("a", 1, 1, 0), setting("b", 1, 2, 3))
        self.assert_taken(run, "every", at_least(0, 0), True, ("stretches", ((0, 3), (0, 3))))
        self.assert_taken(run, "every", at_least(0, 1), True, ("stretches", ((1, 2), (0, 3))))
        # A stretch may be shorter than it could be.
        for first, last in ((1, 1), (2, 2)):
            self.assert_taken(run, "every", at_least(0, 1), True, ("stretches", ((first, last), (0, 3))))
        for first, last in ((0, 2), (1, 3), (0, 0), (3, 3), (2, 1), (0, 3), (-1, 1), (1, 4), (4, 4), (5, 4)):
            self.assert_refused(run, "every", at_least(0, 1), True, ("stretches", ((first, last), (0, 3))))

    def test_stretches_that_do_not_meet(self):
        run = (setting("a", 1, 2, 0), setting("a", 1, 2, 0))
        sentence = all_of(at_least(0, 1), at_least(1, 1))
        choices = [(first, last) for first in range(1, 3) for last in range(first, 3)]
        for rows in product(choices, repeat=2):
            self.assert_refused(run, "every", sentence, True, ("stretches", rows))
        sentence = all_of(at_least(0, 1), at_least(1, 0))
        self.assert_taken(run, "every", sentence, True, ("stretches", ((1, 2), (0, 3))))
        self.assert_told_refused(run, "every", sentence, True, "stretches", ((1, 2), (0, 2)), ((1, 2), (0, 0)))
        self.assert_taken(run, "every", at_least(0, 0), True, ("stretches", ((0, 1), (0, 2))))
        self.assert_taken(run, "every", at_least(0, 0), True, ("stretches", ((2, 3), (1, 3))))
        self.assert_refused(run, "every", at_least(0, 0), True, ("stretches", ((1, 3), (1, 2))))
        self.assert_refused(run, "every", at_least(0, 0), True, ("stretches", ((0, 1), (2, 2))))

    def test_stretches_that_letters_hold_together(self):
        sentence = all_of(at_least(0, 1), at_least(1, 1))
        self.assert_taken(MEETING_OF_TWO, "every", sentence, True, ("stretches", ((1, 1), (1, 1))))
        run = (MEETING_OF_TWO[0] + (step(a=1),), MEETING_OF_TWO[1] + (step(a=1),))
        self.assert_taken(run, "every", sentence, True, ("stretches", ((1, 1), (1, 1))))
        self.assert_taken(run, "every", sentence, True, ("stretches", ((3, 3), (3, 3))))
        self.assert_told_refused(
            run, "every", sentence, True, "stretches", ((1, 1), (3, 3)), ((3, 3), (1, 1)), ((1, 2), (1, 1)), ((1, 3), (1, 3)),
        )
        # Without one of the letters, one of the stretches can end too early.
        for left_out in (1, 2):
            kept = tuple(tuple(event if event[1] != left_out else ("step", event[2]) for event in row) for row in MEETING_OF_TWO)
            self.assert_refused(kept, "every", sentence, True, ("stretches", ((1, 1), (1, 1))))

    def test_a_part_of_another_process(self):
        run = (setting("a", 1, 2), setting("b", 1, 2))
        sentence = all_of(at_least(0, 1), at_least(1, 0, "b"))
        self.assert_taken(run, "every", sentence, True, ("stretches", ((1, 2), (0, 2))))
        self.assert_refused(run, "every", sentence, True, ("stretches", ((0, 2), (1, 2))))

    def test_wrong_items(self):
        run = (setting("a", 1, 1, 0), setting("b", 1, 2, 3))
        good = (1, 2)
        for row in ((1,), (1, 2, 2), [1, 2], (True, 2), (1, 2.0), (1.0, 2), ("1", 2), (None, 2), (1, None), None, (), 1, "ab",
                    Hostile(), (Hostile(), 2), (1, Hostile()), (HostileInt(1), 2), (1, HostileInt(2)), HostileTuple(good),
                    (1, 10 ** 30), (-10 ** 30, 1), ((1, 2), (1, 2))):
            self.assert_refused(run, "every", at_least(0, 1), True, ("stretches", (row, (0, 3))))
            self.assert_refused(run, "every", at_least(1, 1, "b"), True, ("stretches", ((0, 3), row)))
        self.assert_told_refused(
            run, "every", at_least(0, 1), True, "stretches",
            (), (good,), (good, (0, 3), (0, 3)), (good, (0, 3), ()), good, (good, None),
        )
        self.assert_refused(run, "every", at_least(0, 0), True, ("stretches", ((False, 3), (0, 3))))

    def test_each_pair_of_pairs(self):
        pairs = list(product(range(-1, 4), repeat=2))
        sentence = all_of(at_least(0, 1), at_least(1, 1))
        asked = [(MEETING_OF_TWO, sentence), (SENDING, sentence), (SENDING, at_least(0, 1)), (SENDING, below(1, 1))]
        for run, sentence in asked:
            slow = SlowJudge(run, sentence)
            order = Order(run)
            for rows in product(pairs, repeat=2):
                told = takes(order, "every", sentence, True, ("stretches", rows))
                self.assertIs(slow.takes("every", True, ("stretches", rows)), told, (sentence, rows))
                self.assertTrue(not told or slow_answer(run, "every", sentence))


class TestPath(PaperTest):

    def test_each_row_of_moves(self):
        for sentence in (("way", 2), ("way", 1), at_least(0, 2), NEVER, ("and", at_least(1, 5), at_least(0, 2))):
            slow = SlowJudge(SENDING, sentence)
            order = Order(SENDING)
            rows = list(product(range(-1, 3), repeat=5))
            taken = [moves for moves in rows if takes(order, "every", sentence, False, ("path", moves))]
            expected = [moves for moves in product((0, 1), repeat=5) if slow.is_path(moves)]
            self.assertEqual(expected, taken)
            self.assertIs(taken == [], slow_answer(SENDING, "every", sentence))

    def test_too_short_or_too_long(self):
        path = PATH_OF_SENDING
        self.assert_taken(SENDING, "every", ("way", 2), False, ("path", path))
        self.assert_told_refused(
            SENDING, "every", ("way", 2), False, "path", path[:-1], path[1:], path + (0,), path + (1,), (), path * 2, (0,),
        )

    def test_an_event_before_it_can_come(self):
        wrong = [(1, 0, 0, 0, 1), (0, 1, 0, 0, 1), (0, 1, 0, 1, 0), (0, 0, 0, 0, 1), (0, 0, 1, 1, 1), (1, 1, 0, 0, 0)]
        self.assert_told_refused(SENDING, "every", ("way", 2), False, "path", *wrong)

    def test_a_cut_that_fulfils_the_sentence(self):
        self.assert_taken(SENDING, "every", ("and", at_least(1, 5), at_least(0, 2)), False, ("path", (0, 0, 1, 1, 0)))
        self.assert_refused(SENDING, "every", ("and", at_least(1, 5), at_least(0, 2)), False, ("path", PATH_OF_SENDING))
        for size in range(6):
            self.assert_refused(counted(SENDING), "every", of_size(SENDING, size), False, ("path", PATH_OF_SENDING))
        self.assert_taken(counted(SENDING), "every", of_size(SENDING, 6), False, ("path", PATH_OF_SENDING))

    def test_wrong_items(self):
        for place in range(5):
            hostile = HostileInt(PATH_OF_SENDING[place])
            for value in (True, False, None, 0.0, 1.0, "0", -1, 2, (0,), [0], Hostile(), hostile, 10 ** 30):
                moves = PATH_OF_SENDING[:place] + (value,) + PATH_OF_SENDING[place + 1:]
                self.assert_refused(SENDING, "every", ("way", 2), False, ("path", moves))


class TestAllPapers(PaperTest):

    def assert_as_the_slow_one(self, slow, order, paper, answers):
        """Asserts that the paper is judged as it should be, and that it is not taken for a wrong answer."""
        many = 0
        for question, answer in product(QUESTIONS, (False, True)):
            told = takes(order, question, slow.sentence, answer, paper)
            self.assertIs(slow.takes(question, answer, paper), told, (slow.run, question, slow.sentence, answer, shown(paper)))
            if told:
                many += 1
                self.assertIs(answers[question], answer, (slow.run, question, slow.sentence, shown(paper)))
        return many

    def test_papers_that_are_changed_a_little(self):
        numbers = Numbers(81)
        judged = 0
        taken = 0
        for run, sentence in made_questions(82)[::3] + made_questions(83)[1::3]:
            slow = SlowJudge(run, sentence)
            order = Order(run)
            answers = {question: slow_answer(run, question, sentence) for question in QUESTIONS}
            papers = [tell(order, question, sentence, 10 ** 6)[1] for question in QUESTIONS]
            papers += [some_free(order, sentence, 10 ** 6), every_free(order, sentence, 10 ** 6)]
            for paper in papers:
                self.assertGreater(self.assert_as_the_slow_one(slow, order, paper, answers), 0)
                for changed in numbers.some_of(list(varied(paper)), 25):
                    judged += 1
                    taken += self.assert_as_the_slow_one(slow, order, changed, answers) > 0
        self.assertGreater(judged, 20000)
        self.assertGreater(taken, 2000)

    def test_papers_with_a_part_replaced_by_any_value(self):
        numbers = Numbers(84)
        for run, sentence in made_questions(85)[::15]:
            slow = SlowJudge(run, sentence)
            order = Order(run)
            answers = {question: slow_answer(run, question, sentence) for question in QUESTIONS}
            for question in QUESTIONS:
                paper = tell(order, question, sentence, 10 ** 6)[1]
                for changed in numbers.some_of(list(replaced(paper)), 400):
                    self.assert_as_the_slow_one(slow, order, changed, answers)

    def test_papers_of_other_questions(self):
        numbers = Numbers(88)
        asked = made_questions(89)
        for run, _ in asked[::24]:
            sentences = [sentence for other, sentence in asked if len(other) == len(run)]
            sentences = [numbers.one_of(sentences) for _ in range(8)]
            order = Order(run)
            papers = [tell(order, question, sentence, 10 ** 6)[1] for question in QUESTIONS for sentence in sentences]
            papers += [free(order, sentence, 10 ** 6) for free in (some_free, every_free) for sentence in sentences]
            for sentence in sentences:
                slow = SlowJudge(run, sentence)
                answers = {question: slow_answer(run, question, sentence) for question in QUESTIONS}
                for paper in papers:
                    self.assert_as_the_slow_one(slow, order, paper, answers)

    def test_each_short_wall(self):
        run = ((("send", 1, (("a", 1),)), step(a=0)), (("take", 1, (("a", 1),)),))
        alphabet = [("false", 0), ("false", 1), ("needs", 0, 1), ("needs", 1, 0), ("needs", 0, 0), ("false", 2), ("needs", 0, 2)]
        sentences = [at_least(0, 2), at_least(1, 1), all_of(below(0, 1), at_least(1, 1)), all_of(at_least(0, 1), below(1, 0))]
        for sentence in sentences:
            slow = SlowJudge(run, sentence)
            order = Order(run)
            answers = {question: slow_answer(run, question, sentence) for question in QUESTIONS}
            for length in range(5):
                for rows in product(alphabet, repeat=length):
                    self.assert_as_the_slow_one(slow, order, ("wall", rows), answers)

    def test_each_short_flow(self):
        alphabet = [(p, i, q, j, amount) for p, i, q, j in product((0, 1, 2), (1, 2), (0, 1), (1, 2)) for amount in (1, 4)]
        alphabet += [(1, 1, 0, 1, amount) for amount in (0, 2, 3)] + [(2, 1, 0, 2, amount) for amount in (0, 3, 5)]
        for bound in (2, 3, 4, 6):
            slow = SlowJudge(LOSING, ("sum", TERMS_OF_LOSING, bound))
            order = Order(LOSING)
            answers = {question: slow_answer(LOSING, question, slow.sentence) for question in QUESTIONS}
            for length in range(3):
                for rows in product(alphabet, repeat=length):
                    self.assert_as_the_slow_one(slow, order, ("flow", rows), answers)

    def test_beyond_the_limits(self):
        # A process that the run does not have counts as one without events.
        for process in (-1, 2, 7):
            never = all_of(at_least(0, 0), at_least(process, 1))
            self.assert_refused(SENDING, "some", never, True, ("cut", (0, 0)), ("cut", (3, 2)))
            self.assert_refused(SENDING, "every", never, True, ("stretches", ((0, 3), (0, 2))), ("closed", ()))
            self.assert_taken(SENDING, "some", never, False, ("wall", (("false", process),)))
            always = all_of(at_least(0, 0), below(process, 1))
            self.assert_taken(SENDING, "some", always, True, ("cut", (2, 1)))
            self.assert_taken(SENDING, "every", always, True, ("stretches", ((0, 3), (0, 2))))
            self.assert_told_refused(SENDING, "some", always, False, "wall", (("false", process),), (("needs", process, 0),))
            self.assert_taken(SENDING, "some", ("sum", ((9, process, "a"), (1, 0, "a")), 3), False, ("flow", ()))
        deep = at_least(1, 6)
        for _ in range(40):
            deep = ("not", deep)
        self.assert_taken(SENDING, "some", deep, False, ("wall", (("false", 1),) * 3))
        self.assert_taken(SENDING, "some", ("sum", ((100, 0, "a"),) * 9, 1801), False, ("flow", ()))
        self.assert_taken(SENDING, "every", ("way", 10 ** 9), False, ("path", PATH_OF_SENDING))

    def test_nothing_is_changed_and_earlier_calls_do_not_matter(self):
        asked = []
        for sentence in (at_least(1, 5), at_least(1, 6), at_least(0, 1), ("sum", ((1, 0, "a"),), 1), ("way", 1), ("way", 2)):
            for question in QUESTIONS:
                answer, paper = tell(Order(SENDING), question, sentence, 100)
                asked += [(question, sentence, answer, changed) for changed in [paper] + list(varied(paper))[::7]]
        asked = tuple(asked)
        told = kinds(asked)
        order = Order(SENDING)
        there = [takes(order, *question) for question in asked]
        back = [takes(order, *question) for question in reversed(asked)]
        self.assertEqual(there, back[::-1])
        self.assertEqual(there, [takes(Order(SENDING), *question) for question in asked])
        self.assertEqual(told, kinds(asked))
        self.assertEqual({True, False}, set(there))

    def test_lists_in_papers_are_not_changed(self):
        for name in NAMES:
            paper = [name, [[0, 0], [1, 0]]]
            for value in (paper, tuple(paper), (name, ([0, 0], [1, 0]))):
                for question, answer in product(QUESTIONS, (False, True)):
                    self.assertIs(False, takes(Order(SENDING), question, ("way", 1), answer, value))
            self.assertEqual([name, [[0, 0], [1, 0]]], paper)

    def test_large_runs(self):
        for run in large_runs()[::3]:
            run = counted(run)
            order = Order(run)
            begin = time.process_time()
            moves = tell(order, "every", at_least(0, 31), 0)[1]
            self.assertEqual("path", moves[0])
            terms = tuple((1, process, "a") for process in range(6))
            self.assertIs(True, takes(order, "every", ("sum", terms, 181), False, moves))
            self.assertIs(False, takes(order, "every", ("sum", terms, 180), False, moves))
            closed = every_free(order, ("sum", terms, 7), 10 ** 5)
            self.assertIs(True, takes(order, "every", ("sum", terms, 7), True, closed))
            self.assertIs(False, takes(order, "every", ("sum", terms, 7), True, ("closed", closed[1][:-1])))
            self.assertLess(time.process_time() - begin, 3)

    def test_very_long_papers(self):
        order = Order(many_steps(2, 30))
        many = 100000
        begin = time.process_time()
        for paper in (
            ("wall", (("false", 1),) * many), ("flow", ((0, 1, 0, 1, 1),) * many), ("path", (0, 1) * many), ("cut", (0,) * many),
            ("stretches", ((0, 30),) * many),
        ):
            for question, answer in product(QUESTIONS, (False, True)):
                self.assertIs(False, takes(order, question, at_least(1, 31), answer, paper))
        cuts = tuple(order.cuts(1000))
        self.assertIs(True, takes(order, "some", at_least(1, 31), False, ("closed", cuts * 50)))
        self.assertLess(time.process_time() - begin, 5)


if __name__ == "__main__":
    unittest.main()
