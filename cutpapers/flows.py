"""Flows from winners to losers."""


class Flow:
    """A flow from winners to losers, who are numbered from 0 on.

    gains and losses tell how much a winner can give and a loser can take.
    below has for each winner the list of the losers to whom it can give.
    """

    def __init__(self, gains, losses, below):
        self.unspent = list(gains)
        self.unpaid = list(losses)
        self.below = below
        # For each loser a dict from the winners that give to it to the amounts.
        self.amounts = [{} for _ in losses]

    def fill(self):
        """Makes the flow the greatest one, and returns the list of the winners that are reached in the end.

        These are the winners that have something left, and those that give to
        a loser to whom a winner that is reached can give.
        """
        end, losers_from, winners_from = self._way()
        while end is not None:
            self._push(end, losers_from, winners_from)
            end, losers_from, winners_from = self._way()
        return sorted(winners_from)

    def _way(self):
        """Looks for a shortest way by which more can flow.

        Returns the loser at its end, or None if there is no way; a dict from
        each loser that was reached to the winner who could give more to it;
        and a dict from each winner that was reached to the loser to whom it
        could give less instead, or to None if it has something left.
        """
        losers_from = {}
        winners_from = {winner: None for winner, amount in enumerate(self.unspent) if amount > 0}
        queue = list(winners_from)
        done = 0
        while done < len(queue):
            winner = queue[done]
            done += 1
            for loser in self.below[winner]:
                if loser in losers_from:
                    continue
                losers_from[loser] = winner
                if self.unpaid[loser] > 0:
                    return loser, losers_from, winners_from
                for other in self.amounts[loser]:
                    if other not in winners_from:
                        winners_from[other] = loser
                        queue.append(other)
        return None, losers_from, winners_from

    def _push(self, end, losers_from, winners_from):
        """Lets as much flow as the way to this end allows."""
        more, less = _steps_to(end, losers_from, winners_from)
        start = more[-1][1]
        limits = [self.amounts[loser][winner] for loser, winner in less]
        amount = min([self.unspent[start], self.unpaid[end]] + limits)
        self.unspent[start] -= amount
        self.unpaid[end] -= amount
        for loser, winner in more:
            self.amounts[loser][winner] = self.amounts[loser].get(winner, 0) + amount
        for loser, winner in less:
            self.amounts[loser][winner] -= amount
            if self.amounts[loser][winner] == 0:
                del self.amounts[loser][winner]


def _steps_to(end, losers_from, winners_from):
    """Returns the pairs (loser, winner) where more is to flow on the way, from its end on, and those where less is."""
    more = []
    less = []
    loser = end
    while loser is not None:
        winner = losers_from[loser]
        more.append((loser, winner))
        loser = winners_from[winner]
        if loser is not None:
            less.append((loser, winner))
    return more, less
