"""Points 200 to 204: the order of the events, cuts, states and letters under way."""

import unittest
from itertools import product

from cutpapers.errors import BadRun, TooMany
from cutpapers.order import Order
from tests.samples import CROSSING, EMPTY_STEP, FULL_CHANGES, RUN_109, Hostile, HostileInt, HostileTuple
from tests.samples import many_steps, other_values, places, replaced, shown, slow_before, slow_cuts, slow_is_cut
from tests.samples import slow_state, slow_under_way, small_runs


class TestCreation(unittest.TestCase):

    def test_what_is_no_run(self):
        wrong = [
            (), ((),) * 7, many_steps(1, 31), [()], ([],), ([EMPTY_STEP],), ((("take", 5, ()),),), None, True, "step", 5,
            ((("take", 5, ()), ("send", 5, ())),), ((("take", 1, ()), ("send", 2, ())), (("take", 2, ()), ("send", 1, ()))),
            ((("step", (("b", 1), ("a", 1))),),), ((("send", 1, ()), ("send", 1, ())),), ((("step", [("a", 1)]),),),
        ]
        for value in wrong + [value for value in other_values() if type(value) is not tuple]:
            with self.assertRaises(BadRun, msg=shown(value)):
                Order(value)

    def test_runs(self):
        for run in (((),), ((),) * 6, RUN_109, CROSSING, many_steps(6, 30)):
            order = Order(run)
            self.assertEqual(len(run), order.count())
            self.assertEqual([len(row) for row in run], [order.size(process) for process in range(len(run))])
            self.assertEqual((0,) * len(run), order.empty())
            self.assertEqual(tuple(len(row) for row in run), order.whole())


class TestBeforeAndClocks(unittest.TestCase):

    def test_one_process(self):
        order = Order(many_steps(1, 3))
        for event, later in product((1, 2, 3), repeat=2):
            self.assertIs(event < later, order.before(0, event, 0, later))
        self.assertEqual([(0,), (1,), (2,), (3,)], [order.clock(0, event) for event in range(4)])

    def test_a_letter(self):
        order = Order((
            (EMPTY_STEP, ("send", 7, ()), EMPTY_STEP), (EMPTY_STEP, ("take", 7, ()), EMPTY_STEP), (EMPTY_STEP,),
        ))
        self.assertIs(True, order.before(0, 2, 1, 2))
        self.assertIs(True, order.before(0, 1, 1, 3))
        self.assertIs(False, order.before(0, 3, 1, 2))
        self.assertIs(False, order.before(0, 3, 1, 3))
        self.assertIs(False, order.before(0, 2, 1, 1))
        self.assertIs(False, order.before(1, 2, 0, 2))
        self.assertIs(False, order.before(1, 1, 0, 3))
        self.assertIs(False, order.before(2, 1, 1, 3))
        self.assertEqual([(0, 0, 0), (0, 1, 0), (2, 2, 0), (2, 3, 0)], [order.clock(1, event) for event in range(4)])
        self.assertEqual([(0, 0, 0), (1, 0, 0), (2, 0, 0), (3, 0, 0)], [order.clock(0, event) for event in range(4)])
        self.assertEqual([(0, 0, 0), (0, 0, 1)], [order.clock(2, event) for event in range(2)])

    def test_chains_over_several_processes(self):
        order = Order((
            (("take", 2, ()),), (("take", 1, ()), ("send", 2, ())), (EMPTY_STEP, ("send", 1, ()), EMPTY_STEP),
        ))
        self.assertEqual((1, 2, 2), order.clock(0, 1))
        self.assertIs(True, order.before(2, 1, 0, 1))
        self.assertIs(True, order.before(2, 2, 0, 1))
        self.assertIs(False, order.before(2, 3, 0, 1))
        self.assertIs(False, order.before(0, 1, 2, 1))

    def test_no_event_is_before_itself(self):
        order = Order(CROSSING)
        for process, number in places(CROSSING):
            self.assertIs(False, order.before(process, number, process, number))

    def test_a_letter_to_its_sender(self):
        order = Order(((("send", 1, ()), ("take", 1, ())), ()))
        self.assertEqual([(0, 0), (1, 0), (2, 0)], [order.clock(0, event) for event in range(3)])
        self.assertEqual([(0, 0), (1, 0), (2, 0)], order.cuts(3))

    def test_small_runs(self):
        for run in small_runs()[::3] + [CROSSING]:
            order = Order(run)
            before = slow_before(run)
            for one, other in product(places(run), repeat=2):
                self.assertIs((one, other) in before, order.before(*one, *other), (run, one, other))
            for process in range(len(run)):
                self.assertEqual((0,) * len(run), order.clock(process, 0))
            for place in places(run):
                known = [one for one in places(run) if one == place or (one, place) in before]
                clock = tuple(len([one for one in known if one[0] == process]) for process in range(len(run)))
                self.assertEqual(clock, order.clock(*place), (run, place))

    def test_numbers_beyond_the_rows(self):
        order = Order(RUN_109)
        for process, event in [(0, 0), (0, -1), (0, 3), (1, 1), (3, 1), (-1, 1), (6, 1), (0, 31)]:
            self.assertIs(False, order.before(process, event, 2, 1))
            self.assertIs(False, order.before(0, 1, process, event))
        self.assertEqual((0, 0, 0), order.clock(0, -1))
        self.assertEqual((2, 0, 0), order.clock(0, 3))
        self.assertEqual((0, 0, 0), order.clock(1, 31))
        self.assertEqual((0, 0, 0), order.clock(3, 1))
        self.assertEqual((0, 0, 0), order.clock(-1, 1))
        self.assertEqual([0, 0, 0], [order.size(process) for process in (-1, 3, 7)])


class TestCuts(unittest.TestCase):

    def test_is_cut(self):
        order = Order(RUN_109)
        cuts = [(0, 0, 0), (1, 0, 0), (1, 0, 1), (2, 0, 0), (2, 0, 1)]
        for value in product(range(-1, 4), repeat=3):
            self.assertIs(value in cuts, order.is_cut(value), value)
        self.assertEqual(sorted(cuts, key=lambda cut: (sum(cut), cut)), order.cuts(5))

    def test_is_cut_of_any_value(self):
        order = Order(RUN_109)
        wrong = [
            (), (0,), (0, 0), (0, 0, 0, 0), [0, 0, 0], (0, 0, False), (True, 0, 0), (1, 0, True), (1.0, 0, 0), ("1", 0, 0),
            (None, 0, 0), ((0,), 0, 0), ((0, 0, 0),), "000", 0, {}, (-1, 0, 0), (0, 0, -1), (3, 0, 0), (0, 1, 0), (0, 0, 1),
            (2, 0, 2), (0, 0, Hostile()), (HostileInt(0), 0, 0), HostileTuple((0, 0, 0)), (10 ** 30, 0, 0), {0: 0, 1: 0, 2: 0},
        ]
        for value in wrong + other_values():
            self.assertIs(False, order.is_cut(value), shown(value))
        for value in replaced((1, 0, 1)):
            self.assertIs(False, order.is_cut(value), shown(value))
        one = Order(((),))
        self.assertIs(True, one.is_cut((0,)))
        for value in ((), (1,), (False,), (0, 0), 0, [0], None):
            self.assertIs(False, one.is_cut(value))

    def test_small_runs(self):
        for run in small_runs():
            order = Order(run)
            cuts = slow_cuts(run)
            self.assertEqual(cuts, order.cuts(len(cuts)), run)
            self.assertEqual(order.empty(), cuts[0])
            self.assertEqual(order.whole(), cuts[-1])
            for value in product(*[range(len(row) + 2) for row in run]):
                self.assertIs(value in cuts, order.is_cut(value), (run, value))

    def test_ups_and_added(self):
        for run in small_runs()[::3] + [CROSSING]:
            order = Order(run)
            for cut in slow_cuts(run):
                ups = []
                for process, number in enumerate(cut):
                    after = cut[:process] + (number + 1,) + cut[process + 1:]
                    self.assertEqual(after, order.added(cut, process))
                    if number < len(run[process]) and slow_is_cut(run, after):
                        ups.append(process)
                self.assertEqual(ups, order.ups(cut), (run, cut))
                self.assertIs(list, type(order.ups(cut)))

    def test_ups_of_the_ends(self):
        order = Order(RUN_109)
        self.assertEqual([0], order.ups((0, 0, 0)))
        self.assertEqual([0, 2], order.ups((1, 0, 0)))
        self.assertEqual([], order.ups((2, 0, 1)))
        self.assertEqual([], Order(((),) * 6).ups((0,) * 6))

    def test_cuts_in_their_order(self):
        order = Order(many_steps(2, 2))
        cuts = [(0, 0), (0, 1), (1, 0), (0, 2), (1, 1), (2, 0), (1, 2), (2, 1), (2, 2)]
        self.assertEqual(cuts, order.cuts(9))
        self.assertEqual(cuts, order.cuts(10 ** 9))
        order = Order(many_steps(1, 30))
        self.assertEqual([(number,) for number in range(31)], order.cuts(31))

    def test_as_many_as_most_and_one_less(self):
        for run in small_runs()[::10] + [CROSSING, RUN_109, many_steps(3, 4)]:
            order = Order(run)
            many = len(slow_cuts(run))
            self.assertEqual(many, len(order.cuts(many)))
            for most in range(-1, many):
                with self.assertRaises(TooMany):
                    order.cuts(most)

    def test_no_cuts_allowed(self):
        self.assertEqual([(0,)], Order(((),)).cuts(1))
        for most in (0, -1, -100):
            with self.assertRaises(TooMany):
                Order(((),)).cuts(most)

    def test_the_greatest_run(self):
        order = Order(many_steps(6, 30))
        self.assertEqual((30,) * 6, order.whole())
        for most in (0, 1, 6, 7, 100, 5000):
            with self.assertRaises(TooMany):
                order.cuts(most)

    def test_the_returned_lists_are_new(self):
        order = Order(RUN_109)
        for told in (lambda: order.cuts(5), lambda: order.ups((1, 0, 0))):
            kept = list(told())
            changed = told()
            changed.append(None)
            changed[0] = None
            self.assertEqual(kept, told())


class TestStatesAndLetters(unittest.TestCase):

    def test_states(self):
        order = Order(((("step", (("a", 3), ("c", -1))), EMPTY_STEP, ("send", 4, (("c", 8),)), ("take", 4, FULL_CHANGES)), ()))
        states = [(0, 0, 0, 0), (3, 0, -1, 0), (3, 0, -1, 0), (3, 0, 8, 0), (1000, -1000, 0, 7)]
        self.assertEqual(states, [order.state(0, events) for events in range(5)])
        self.assertEqual((0, 0, 0, 0), order.state(1, 0))
        self.assertIs(tuple, type(order.state(0, 4)))

    def test_a_value_set_back(self):
        order = Order(((("step", (("b", 5),)), ("step", (("b", 0),)), ("step", (("b", -5), ("d", 1)))),))
        self.assertEqual([0, 5, 0, -5], [order.state(0, events)[1] for events in range(4)])

    def test_states_beyond_the_rows(self):
        order = Order(RUN_109)
        self.assertEqual((1, 0, -2, 0), order.state(0, 9))
        for process, events in [(0, -1), (1, 1), (3, 1), (-1, 2)]:
            self.assertEqual((0, 0, 0, 0), order.state(process, events))

    def test_under_way(self):
        order = Order(RUN_109)
        expected = {(0, 0, 0): 0, (1, 0, 0): 1, (2, 0, 0): 1, (1, 0, 1): 0, (2, 0, 1): 0}
        self.assertEqual(expected, {cut: order.under_way(cut) for cut in expected})

    def test_letters_that_are_never_taken(self):
        order = Order((tuple(("send", letter, ()) for letter in range(1, 31)), (("take", 2, ()),)))
        for number in range(31):
            self.assertEqual(number, order.under_way((number, 0)))
            if number >= 2:
                self.assertEqual(number - 1, order.under_way((number, 1)))

    def test_small_runs(self):
        for run in small_runs()[::3] + [CROSSING]:
            order = Order(run)
            for cut in slow_cuts(run):
                self.assertEqual(slow_under_way(run, cut), order.under_way(cut), (run, cut))
            for process, row in enumerate(run):
                for events in range(len(row) + 1):
                    self.assertEqual(slow_state(run, process, events), order.state(process, events))


if __name__ == "__main__":
    unittest.main()
