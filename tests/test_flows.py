"""The greatest flow from winners to losers, which the papers of point 503 are made of."""

import unittest
from itertools import product

from cutpapers.flows import Flow
from tests.searches import Numbers


def greatest(gains, losses, below):
    """Returns the greatest sum of chosen winners less the losers to whom they can give, by trying all choices."""
    best = 0
    for chosen in product((False, True), repeat=len(gains)):
        winners = [winner for winner, taken in enumerate(chosen) if taken]
        losers = {loser for winner in winners for loser in below[winner]}
        best = max(best, sum(gains[winner] for winner in winners) - sum(losses[loser] for loser in losers))
    return best


class TestFlow(unittest.TestCase):

    def test_nobody(self):
        flow = Flow([], [], [])
        self.assertEqual(([], [], []), (flow.fill(), flow.unspent, flow.amounts))

    def test_a_winner_with_nobody_below(self):
        flow = Flow([4], [], [[]])
        self.assertEqual([0], flow.fill())
        self.assertEqual([4], flow.unspent)

    def test_a_loser_with_nobody_above(self):
        flow = Flow([], [4], [])
        self.assertEqual(([], [4], [{}]), (flow.fill(), flow.unpaid, flow.amounts))

    def test_one_pair(self):
        for gain, loss in product(range(1, 4), repeat=2):
            flow = Flow([gain], [loss], [[0]])
            self.assertEqual([0] if gain > loss else [], flow.fill())
            self.assertEqual([{0: min(gain, loss)}], flow.amounts)
            self.assertEqual(([max(0, gain - loss)], [max(0, loss - gain)]), (flow.unspent, flow.unpaid))

    def test_a_winner_gives_less_to_one_and_more_to_another(self):
        flow = Flow([5, 5], [5, 5], [[0, 1], [0]])
        self.assertEqual([], flow.fill())
        self.assertEqual([{1: 5}, {0: 5}], flow.amounts)
        flow = Flow([5, 3], [4, 3], [[0, 1], [0]])
        self.assertEqual([0, 1], flow.fill())
        self.assertEqual(([4, 3], [0, 0], 1), ([sum(given.values()) for given in flow.amounts], flow.unpaid, sum(flow.unspent)))

    def test_made_flows(self):
        numbers = Numbers(41)
        for _ in range(600):
            gains = [numbers.between(1, 6) for _ in range(numbers.below(7))]
            losses = [numbers.between(1, 6) for _ in range(numbers.below(7))]
            below = [[loser for loser in range(len(losses)) if numbers.below(5) < 2] for _ in gains]
            kept = [list(gains), list(losses), [list(row) for row in below]]
            flow = Flow(gains, losses, below)
            reached = flow.fill()
            self.assertEqual(greatest(gains, losses, below), sum(flow.unspent))
            self.assertEqual(sum(flow.unspent), sum(gains) - sum(sum(given.values()) for given in flow.amounts))
            for winner, gain in enumerate(gains):
                given = [amounts[winner] for amounts in flow.amounts if winner in amounts]
                self.assertEqual(gain, flow.unspent[winner] + sum(given))
                self.assertTrue(all(amount > 0 for amount in given) and flow.unspent[winner] >= 0)
            for loser, loss in enumerate(losses):
                self.assertEqual(loss, flow.unpaid[loser] + sum(flow.amounts[loser].values()))
                self.assertTrue(flow.unpaid[loser] >= 0)
                self.assertTrue(all(loser in below[winner] for winner in flow.amounts[loser]))
            losers = {loser for winner in reached for loser in below[winner]}
            self.assertEqual(sum(flow.unspent), sum(gains[at] for at in reached) - sum(losses[at] for at in losers))
            self.assertEqual(kept, [gains, losses, below])


if __name__ == "__main__":
    unittest.main()
