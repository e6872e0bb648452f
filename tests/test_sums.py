"""Points 500 to 503: sums."""

import time
import unittest

from cutpapers.order import Order
from cutpapers.sums import gains, some_sum
from tests.papers import slow_gains
from tests.samples import CROSSING, EMPTY_STEP, RUN_109, kinds, many_steps, slow_before, slow_cuts, slow_is_cut, small_runs
from tests.samples import step
from tests.searches import Numbers, large_runs, made_run, made_runs, made_terms, next_cuts, slow_sum


def questions():
    """Returns pairs of a run and terms."""
    numbers = Numbers(51)
    asked = []
    for run in made_runs() + small_runs()[::6] + [CROSSING, RUN_109, many_steps(3, 2)]:
        asked.append((run, made_terms(numbers, len(run))))
    for turn in range(120):
        count = 2 + turn % 3
        run = made_run(numbers, [18 // count] * count, 10)
        asked.append((run, tuple((numbers.between(-3, 3), place % count, "abcd"[place % 4]) for place in range(6))))
    return asked


class PaperTest(unittest.TestCase):

    def assert_cut(self, run, terms, bound, best):
        """Asserts that the paper is a cut whose sum is the best one."""
        name, cut = some_sum(Order(run), ("sum", terms, bound))
        self.assertEqual("cut", name, (run, terms, bound))
        self.assertTrue(Order(run).is_cut(cut))
        self.assertTrue(slow_is_cut(run, cut))
        self.assertEqual(best, slow_sum(run, cut, terms), (run, terms, bound))

    def assert_flow(self, run, terms, bound, best):
        """Asserts that the paper is a flow, and that it shows that no sum is greater than the best one."""
        order = Order(run)
        name, rows = some_sum(order, ("sum", terms, bound))
        self.assertEqual("flow", name, (run, terms, bound))
        self.assertIs(tuple, type(rows))
        self.assertEqual(sorted(rows), list(rows))
        self.assertEqual(len(rows), len({row[:4] for row in rows}))
        gain = {(process, event): amount for process, event, amount in gains(order, terms)}
        given = dict.fromkeys(gain, 0)
        for process, event, other, earlier, amount in rows:
            self.assertIs(int, type(amount))
            self.assertGreaterEqual(amount, 1)
            self.assertGreater(gain[(process, event)], 0)
            self.assertLess(gain[(other, earlier)], 0)
            self.assertTrue(order.before(other, earlier, process, event))
            given[(process, event)] += amount
            given[(other, earlier)] += amount
        for place, amount in given.items():
            self.assertLessEqual(amount, abs(gain[place]), place)
        left = sum(amount for amount in gain.values() if amount > 0) - sum(row[4] for row in rows)
        self.assertLess(left, bound)
        self.assertEqual(best, left)

    def assert_best(self, run, terms, best):
        """Asserts the papers for bounds below the best sum, at it, and above it."""
        for bound in (-100000, best - 7, best - 1, best):
            self.assert_cut(run, terms, bound, best)
        for bound in (best + 1, best + 2, best + 50, 100000):
            self.assert_flow(run, terms, bound, best)


class TestGains(unittest.TestCase):

    def assert_gains(self, expected, run, terms):
        self.assertEqual(expected, gains(Order(run), terms))
        self.assertEqual(kinds(tuple(expected)), kinds(tuple(gains(Order(run), terms))))

    def test_one_term(self):
        run = ((step(a=3), step(a=-2), step(b=4), step(a=1, b=1)),)
        self.assert_gains([(0, 1, 3), (0, 2, -5), (0, 4, 3)], run, ((1, 0, "a"),))
        self.assert_gains([(0, 1, -6), (0, 2, 10), (0, 4, -6)], run, ((-2, 0, "a"),))
        self.assert_gains([(0, 3, 36), (0, 4, -27)], run, ((9, 0, "b"),))
        self.assert_gains([], run, ((9, 0, "c"),))

    def test_a_value_that_the_variable_has(self):
        run = ((step(a=0), step(a=5), step(a=5), EMPTY_STEP, step(a=5, b=2), step(a=0), step(a=0)),)
        self.assert_gains([(0, 2, 5), (0, 6, -5)], run, ((1, 0, "a"),))
        self.assert_gains([(0, 2, 5), (0, 5, 2), (0, 6, -5)], run, ((1, 0, "a"), (1, 0, "b")))

    def test_terms_of_weight_0(self):
        run = ((step(a=3), step(b=4)), (step(a=3),))
        self.assert_gains([], run, ((0, 0, "a"), (0, 1, "a")))
        self.assert_gains([(0, 2, 4)], run, ((0, 0, "a"), (1, 0, "b")))

    def test_equal_terms_and_terms_of_both_signs(self):
        run = ((step(a=3, b=3), step(a=1)),)
        self.assert_gains([(0, 1, 9), (0, 2, -6)], run, ((1, 0, "a"),) * 3)
        self.assert_gains([], run, ((4, 0, "a"), (-4, 0, "a")))
        self.assert_gains([(0, 2, -2)], run, ((1, 0, "a"), (-1, 0, "b")))
        self.assert_gains([(0, 1, 3), (0, 2, -4)], run, ((2, 0, "a"), (-1, 0, "b")))

    def test_the_order_of_the_rows(self):
        run = (many_steps(1, 2)[0], (), many_steps(1, 12)[0], many_steps(1, 1)[0])
        expected = [(0, 1, 2), (0, 2, 2)] + [(2, event, -1) for event in range(1, 13)] + [(3, 1, 1)]
        self.assert_gains(expected, run, ((1, 3, "a"), (-1, 2, "a"), (2, 0, "a"), (5, 1, "a")))

    def test_letters(self):
        run = ((("send", 5, (("a", 1), ("c", -2))), ("take", 6, (("c", 0),))), (("take", 5, (("d", 9),)), ("send", 6, ())))
        self.assert_gains([(0, 1, -2), (0, 2, 2), (1, 1, 9)], run, ((1, 0, "c"), (1, 1, "d")))

    def test_made_runs(self):
        for run, terms in questions()[::2]:
            self.assert_gains(slow_gains(run, terms), run, terms)

    def test_the_gain_depends_only_on_the_event(self):
        for run, terms in questions()[::8]:
            gain = {(process, event): amount for process, event, amount in gains(Order(run), terms)}
            cuts = slow_cuts(run)
            for cut in cuts:
                for after in next_cuts(cut, cuts):
                    process = [one == other for one, other in zip(cut, after)].index(False)
                    more = slow_sum(run, after, terms) - slow_sum(run, cut, terms)
                    self.assertEqual(more, gain.get((process, after[process]), 0))

    def test_the_list_is_new(self):
        order = Order(((step(a=3),),))
        terms = ((1, 0, "a"),)
        changed = gains(order, terms)
        changed.append(None)
        self.assertEqual([(0, 1, 3)], gains(order, terms))
        self.assertEqual(((1, 0, "a"),), terms)


class TestSomeSum(PaperTest):

    def test_no_events(self):
        for count in range(1, 7):
            self.assert_best(((),) * count, ((9, count - 1, "a"), (-9, 0, "d")), 0)
            for bound in (-1, 0):
                self.assertEqual(("cut", (0,) * count), some_sum(Order(((),) * count), ("sum", ((1, 0, "a"),), bound)))
            self.assertEqual(("flow", ()), some_sum(Order(((),) * count), ("sum", ((1, 0, "a"),), 1)))

    def test_a_single_event(self):
        self.assert_best(((step(a=5),),), ((2, 0, "a"),), 10)
        self.assert_best(((step(a=5),),), ((-2, 0, "a"),), 0)
        self.assert_best(((step(a=-5),),), ((-2, 0, "a"),), 10)
        self.assert_best(((step(a=5),),), ((0, 0, "a"),), 0)
        self.assert_best(((EMPTY_STEP,),), ((2, 0, "a"),), 0)

    def test_one_process(self):
        run = ((step(a=5), step(a=2), step(a=7), step(a=6)),)
        self.assert_best(run, ((1, 0, "a"),), 7)
        self.assert_best(run, ((-1, 0, "a"),), 0)
        self.assertEqual(("cut", (3,)), some_sum(Order(run), ("sum", ((1, 0, "a"),), 7)))
        self.assertEqual(("flow", ((0, 3, 0, 2, 3),)), some_sum(Order(run), ("sum", ((1, 0, "a"),), 8)))
        self.assert_best(((step(a=-5), step(a=-2)),), ((1, 0, "a"),), 0)

    def test_processes_without_letters(self):
        run = ((step(a=5), step(a=2)), (step(a=-1), step(a=-4)), (step(a=-1), step(a=4), step(a=0)))
        self.assert_best(run, ((1, 0, "a"), (1, 1, "a"), (1, 2, "a")), 9)
        self.assert_best(run, ((1, 0, "a"), (-1, 1, "a"), (-3, 2, "a")), 12)

    def test_a_letter_between_a_loser_and_a_winner(self):
        run = ((("send", 1, (("a", -4),)),), (("take", 1, (("a", 6),)),))
        terms = ((1, 0, "a"), (1, 1, "a"))
        self.assert_best(run, terms, 2)
        self.assertEqual(("cut", (1, 1)), some_sum(Order(run), ("sum", terms, 2)))
        self.assertEqual(("flow", ((1, 1, 0, 1, 4),)), some_sum(Order(run), ("sum", terms, 3)))
        terms = ((2, 0, "a"), (1, 1, "a"))
        self.assert_best(run, terms, 0)
        self.assertEqual(("flow", ((1, 1, 0, 1, 6),)), some_sum(Order(run), ("sum", terms, 1)))

    def test_two_winners_share_losers(self):
        # The first winner has to leave the first loser to the second winner.
        run = (
            (("take", 2, (("a", 5),)),), (("send", 1, (("a", -5),)), ("send", 2, (("a", -10),))), (("take", 1, (("a", 5),)),),
        )
        terms = ((1, 0, "a"), (1, 1, "a"), (1, 2, "a"))
        self.assert_best(run, terms, 0)
        self.assertEqual(("flow", ((0, 1, 1, 2, 5), (2, 1, 1, 1, 5))), some_sum(Order(run), ("sum", terms, 1)))

    def test_a_chain_over_several_processes(self):
        run = (
            (("take", 3, (("b", 10),)),), (("take", 2, ()), ("send", 3, (("a", -2),))), (("take", 1, ()), ("send", 2, ())),
            (("send", 1, (("c", -7),)), step(c=0)),
        )
        terms = ((1, 0, "b"), (1, 1, "a"), (1, 3, "c"), (0, 2, "a"))
        self.assert_best(run, terms, 8)
        self.assert_best(run, ((1, 0, "b"), (2, 1, "a"), (1, 3, "c")), 6)
        self.assert_best(run, ((1, 0, "b"), (9, 1, "a"), (1, 3, "c")), 0)
        self.assert_best(run, ((1, 0, "b"), (-9, 1, "a"), (1, 3, "c")), 28)

    def test_a_row_of_30_events(self):
        falling = tuple(step(a=value) for value in [-1, 1] * 15)
        self.assert_best((falling,), ((3, 0, "a"),), 3)
        growing = tuple(step(a=value * (-1) ** value) for value in range(1, 31))
        self.assert_best((growing, ()), ((1, 0, "a"),), 30)
        self.assert_best((growing, growing), ((1, 0, "a"), (-1, 1, "a")), 59)

    def test_the_greatest_sum(self):
        run = ((step(a=1000, b=-1000),), (step(c=1000),)) + ((),) * 4
        self.assert_best(run, ((9, 0, "a"), (-9, 0, "b"), (9, 1, "c"), (9, 1, "c"), (9, 1, "c"), (9, 0, "a")), 54000)

    def test_equal_terms_and_terms_of_weight_0(self):
        run = ((step(a=3), ("send", 1, (("a", 1), ("b", 4)))), (("take", 1, (("a", 2),)), step(a=2)))
        self.assert_best(run, ((1, 0, "a"),) * 6, 18)
        self.assert_best(run, ((1, 0, "a"), (1, 0, "a"), (2, 1, "a"), (2, 1, "a")), 10)
        self.assert_best(run, ((0, 0, "a"), (0, 1, "a")), 0)
        self.assert_best(run, ((5, 0, "a"), (-5, 0, "a")), 0)
        self.assert_best(run, ((0, 0, "a"), (3, 0, "b"), (-1, 1, "a")), 12)

    def test_made_runs(self):
        flows = 0
        for run, terms in questions():
            best = max(slow_sum(run, cut, terms) for cut in slow_cuts(run))
            for bound in (best - 3, best):
                self.assert_cut(run, terms, bound, best)
            for bound in (best + 1, best + 4):
                self.assert_flow(run, terms, bound, best)
            rows = some_sum(Order(run), ("sum", terms, best + 1))[1]
            flows += len({row[0] for row in rows} | {row[2] for row in rows}) > 1
        self.assertGreater(flows, 40)

    def test_no_cut_has_a_greater_sum_than_the_flow_says(self):
        for run, terms in questions()[::3]:
            rows = some_sum(Order(run), ("sum", terms, 100000))[1]
            before = slow_before(run)
            self.assertTrue(all((row[2:4], row[:2]) in before for row in rows))
            won = sum(max(0, gain) for _, _, gain in slow_gains(run, terms))
            for cut in slow_cuts(run):
                self.assertLessEqual(slow_sum(run, cut, terms), won - sum(row[4] for row in rows))

    def test_earlier_calls_do_not_matter(self):
        numbers = Numbers(52)
        for run in (CROSSING, many_steps(6, 3), made_run(numbers, [8] * 6, 10)):
            order = Order(run)
            sentences = tuple(("sum", made_terms(numbers, len(run)), numbers.between(-5, 20)) for _ in range(10))
            told = kinds(sentences)
            there = [some_sum(order, sentence) for sentence in sentences]
            back = [some_sum(order, sentence) for sentence in reversed(sentences)]
            self.assertEqual(there, back[::-1])
            self.assertEqual(there, [some_sum(Order(run), sentence) for sentence in sentences])
            self.assertEqual(told, kinds(sentences))

    def test_large_runs(self):
        numbers = Numbers(53)
        sentences = [tuple((numbers.between(-9, 9), process, numbers.one_of("abcd")) for process in range(6)) for _ in range(3)]
        sentences.append(tuple((9, process, "a") for process in range(6)))
        for run in large_runs() + [many_steps(6, 30)]:
            order = Order(run)
            for terms in sentences:
                begin = time.process_time()
                some_sum(order, ("sum", terms, 100000))
                self.assertLess(time.process_time() - begin, 3)
                self.assert_large(run, order, terms)

    def assert_large(self, run, order, terms):
        """Asserts that the flow and the cut agree on the greatest sum, so that each shows that the other is right."""
        _, cut = some_sum(order, ("sum", terms, -100000))
        self.assertTrue(order.is_cut(cut))
        self.assert_best(run, terms, slow_sum(run, cut, terms))

    def test_all_events_of_a_large_run_win_or_lose(self):
        numbers = Numbers(54)
        for letters in (10, 5, 0):
            made = made_run(numbers, [30] * 6, letters)
            changed = []
            for row in made:
                values = [numbers.between(1, 1000) * (-1) ** number for number in range(30)]
                changed.append(tuple(event[:-1] + ((("d", value),),) for event, value in zip(row, values)))
            run = tuple(changed)
            terms = tuple((numbers.between(1, 9), process, "d") for process in range(6))
            begin = time.process_time()
            self.assertEqual(180, len(gains(Order(run), terms)))
            some_sum(Order(run), ("sum", terms, 100000))
            self.assertLess(time.process_time() - begin, 3)
            self.assert_large(run, Order(run), terms)

    def test_beyond_the_limits(self):
        run = ((step(a=2),), ())
        self.assert_best(run, ((100, 0, "a"),) * 9, 1800)
        self.assert_best(run, (), 0)
        self.assertEqual(("flow", ()), some_sum(Order(run), ("sum", ((1, 0, "a"),), 10 ** 9)))
        # A process that the run does not have counts as one without events.
        for process in (-1, 2, 7):
            self.assertEqual([(0, 1, 2)], gains(Order(run), ((5, process, "a"), (1, 0, "a"))))
            self.assertEqual(("cut", (1, 0)), some_sum(Order(run), ("sum", ((5, process, "a"), (1, 0, "a")), 2)))


if __name__ == "__main__":
    unittest.main()
