"""The search for good regimes: from the least regime on, by rising price, as far as it must go."""

from heapq import heappop, heappush

from leavefirst.holding import hold_among
from leavefirst.reached import misled_walk, ways_to_states
from leavefirst.regimes import regime_of
from leavefirst.ruled import ruled_by
from leavefirst.tables import asked_by, price_of


def what_is_wrong(ruled, ways):
    """Return a misled walk, or else a hold, that the reached states show, or None if the regime is good."""
    found = misled_walk(ruled.plan, ways)
    return hold_among(ruled, ways) if found is None else found


class Search:
    """The regimes of a plan that are not excused, looked through until a good one comes.

    good is a cheapest one of the good regimes, or None; table is the table of its states. entries has an entry for
    each regime that came before: they are a table of regimes if there is no good one, and else one with the excuse of
    the price of the good one or more.
    """

    def __init__(self, plan, prices, fees, excuse):
        self.plan = plan
        self.prices = prices
        self.fees = fees
        self.excuse = excuse
        self.queue = []
        self.known = {}
        self.entries = []
        self.good = None
        self.table = None
        self.put(regime_of(plan, (), ()))
        while self.queue and self.good is None:
            self.go_on()

    def put(self, regime):
        """Put a regime that was not met before, and is not excused, among those that are to be looked at."""
        if regime in self.known:
            return
        self.known[regime] = True
        price = price_of(self.plan, self.prices, self.fees, regime)
        if not self.excuse.takes(regime, price):
            heappush(self.queue, (price, regime))

    def go_on(self):
        """Look at the cheapest of the regimes that are left."""
        _, regime = heappop(self.queue)
        ruled = ruled_by(self.plan, regime)
        ways = ways_to_states(ruled)
        wrong = what_is_wrong(ruled, ways)
        if wrong is None:
            self.good = regime
            self.table = tuple(sorted(ways))
        else:
            self.enter((regime, *wrong))

    def enter(self, entry):
        """Put down an entry, and go on with the regimes that it asks for."""
        self.entries.append(entry)
        for regime in asked_by(self.plan, entry):
            self.put(regime)

    def all_entries(self):
        """Return the ascending tuple of the entries."""
        return tuple(sorted(self.entries))
