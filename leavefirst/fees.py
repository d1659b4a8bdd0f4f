"""Fees: what regimes cost, and the cheapest good one."""

from leavefirst.errors import TooMany
from leavefirst.regimes import regime_of
from leavefirst.search import Search
from leavefirst.tables import MOST_CHANGES_FOR_REGIMES, ONES, Excuse, is_small, price_of


def search_of(plan, prices, fees):
    """Return the search for a cheapest good regime; raise TooMany if the plan is not small."""
    if not is_small(plan):
        raise TooMany(MOST_CHANGES_FOR_REGIMES)
    return Search(plan, prices, fees, Excuse(None, (), ()))


def regime_price(plan, prices, fees, waits, drains):
    """Return the price of the regime."""
    return price_of(plan, prices, fees, regime_of(plan, waits, drains))


def least_worth(plan, prices, fees):
    """Return the least price of a good regime, or None if no regime is good."""
    good = best_regime(plan, prices, fees)
    return None if good is None else price_of(plan, prices, fees, good)


def best_regime(plan, prices, fees):
    """Return a closed good regime of the least price, or None if no regime is good."""
    return search_of(plan, prices, fees).good


def lost_table(plan):
    """Return a table of regimes without excuses, or None if there is a good regime."""
    search = search_of(plan, ONES, ONES)
    return search.all_entries() if search.good is None else None
