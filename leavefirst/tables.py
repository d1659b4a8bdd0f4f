"""Tables of regimes: what closed regimes cost, which are excused, and which their entries ask for."""

from leavefirst.clauses import two_clauses
from leavefirst.plans import all_places
from leavefirst.regimes import is_regime, more_regimes, regime_of

# Plans with more changes have too many regimes, and so have plans with just as many in more signs than this.
MOST_CHANGES_FOR_REGIMES = 4
MOST_SIGNS_OF_MOST_CHANGES = 2
# The prices, and the fees, where none are told.
ONES = (1, 1, 1, 1, 1, 1, 1, 1, 1, 1)


def is_small(plan):
    """Return whether the plan is small: whether all its regimes can be looked through."""
    many = len(all_places(plan))
    signs = len([changes for _, changes in plan[0] if changes])
    return many < MOST_CHANGES_FOR_REGIMES or many == MOST_CHANGES_FOR_REGIMES and signs <= MOST_SIGNS_OF_MOST_CHANGES


def price_of(plan, prices, fees, regime):
    """Return the price of a closed regime."""
    places = all_places(plan)
    order, drained = regime
    waited = [prices[b] for a, b in order if places[a][0] != places[b][0]]
    return sum(waited) + sum([fees[b] for _, b in drained])


class Excuse:
    """Which regimes need no entry: those whose price is above a limit, and those with some waits or drains."""

    def __init__(self, limit, waits, drains):
        self.limit = limit
        self.waits = waits
        self.drains = drains

    def takes(self, regime, price):
        """Return whether the closed regime with this price is excused."""
        if self.limit is not None and price > self.limit:
            return True
        return first_wait_in(self.waits, regime) is not None or first_drain_in(self.drains, regime) is not None


def first_of(pairs, others):
    """Return the first of the pairs that is among the others, or None."""
    found = [pair for pair in pairs if pair in others]
    return found[0] if found else None


def first_wait_in(waits, regime):
    """Return the first of the waits that is in the order of a closed regime, or None."""
    return first_of(waits, regime[0])


def first_drain_in(drains, regime):
    """Return the first of the drains that is among the drained pairs of a closed regime, or None."""
    return first_of(drains, regime[1])


def closed_or_none(plan, waits, drains):
    """Return the closed regime of the waits and drains, or None if they have a round."""
    return regime_of(plan, waits, drains) if is_regime(plan, waits, drains) else None


def with_wait(plan, regime, pair):
    """Return the closed regime that comes of this one by one more wait, or None if that has a round."""
    order, drained = regime
    return closed_or_none(plan, (*order, pair), drained)


def with_drain(plan, regime, pair):
    """Return the closed regime that comes of this one by one more drain, or None if that has a round."""
    order, drained = regime
    return closed_or_none(plan, order, (*drained, pair))


def is_of_walk(entry):
    """Return whether an entry tells a walk: else it tells a hold."""
    return len(entry) == 3


def asked_by(plan, entry):
    """Return the list of the closed regimes that an entry asks for, those that are excused among them."""
    regime = entry[0]
    order, drained = regime
    if not is_of_walk(entry):
        return list(more_regimes(plan, order, drained))
    _, start, sights = entry
    waits, drains = two_clauses(plan, start, sights)
    found = [with_wait(plan, regime, pair) for pair in waits] + [with_drain(plan, regime, pair) for pair in drains]
    return [more for more in found if more is not None]
