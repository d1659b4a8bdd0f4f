"""Claims: which are valid for a plan, and whether they are true, with a certificate that shows it."""

from leavefirst.errors import InvalidClaim
from leavefirst.holding import hold_among
from leavefirst.plans import DIGITS, all_places, is_ascending, is_below, is_pair, is_row
from leavefirst.reached import MOST_CHANGES_FOR_STATES, misled_walk, ways_to_states
from leavefirst.regimes import is_regime
from leavefirst.ruled import Ruled
from leavefirst.search import Search
from leavefirst.tables import ONES, Excuse, is_small, price_of

MOST_WORTH = 2000


def are_pairs(value):
    """Return whether value is a tuple of waits, or of drains."""
    # That there are at most 90 follows: so many pairs of different names there are.
    if not isinstance(value, tuple) or not all([is_pair(pair, DIGITS, DIGITS) for pair in value]):
        return False
    return all([a != b for a, b in value]) and is_ascending(value)


def has_pairs(claim):
    """Return whether a claim has waits and drains behind its word, and nothing else."""
    return is_row(claim, 3) and are_pairs(claim[1]) and are_pairs(claim[2])


def is_valid_for_states(plan, claim):
    """Return whether a claim on the states of one regime is valid for the plan, its word left aside."""
    if not has_pairs(claim) or len(all_places(plan)) > MOST_CHANGES_FOR_STATES:
        return False
    _, waits, drains = claim
    return is_regime(plan, waits, drains)


def is_valid(plan, claim):
    """Return whether a value is a claim, and one that is valid for the plan."""
    if not isinstance(claim, tuple) or not claim:
        return False
    word = claim[0]
    if word in ("calm", "ends"):
        return is_valid_for_states(plan, claim)
    if word == "asks":
        return has_pairs(claim) and is_small(plan)
    if word == "worth":
        return is_row(claim, 2) and is_below(claim[1], MOST_WORTH + 1) and is_small(plan)
    return claim == ("lost",) and is_small(plan)


def require_claim(plan, claim):
    """Raise InvalidClaim if the value is no claim, or is not valid for the plan."""
    if not is_valid(plan, claim):
        raise InvalidClaim()


def decide_states(plan, claim):
    """Return the certificate for a claim on the states of one regime."""
    word, waits, drains = claim
    ruled = Ruled(plan, waits, drains)
    ways = ways_to_states(ruled)
    found = misled_walk(plan, ways) if word == "calm" else hold_among(ruled, ways)
    return ("shown", claim, tuple(sorted(ways))) if found is None else ("broken", claim, found)


def decide_none(plan, claim, excuse):
    """Return the certificate for the claim that no regime is good but those that are excused."""
    search = Search(plan, ONES, ONES, excuse)
    if search.good is None:
        return ("shown", claim, search.all_entries())
    return ("broken", claim, (search.good, search.table))


def decide_worth(plan, claim, prices, fees):
    """Return the certificate for the claim that the least price of a good regime is a number."""
    worth = claim[1]
    search = Search(plan, prices, fees, Excuse(worth, (), ()))
    if search.good is None:
        return ("broken", claim, ("more", search.all_entries()))
    if price_of(plan, prices, fees, search.good) < worth:
        return ("broken", claim, ("less", search.good, search.table))
    return ("shown", claim, (search.good, search.table, search.all_entries()))


def decide(plan, claim, *, prices=ONES, fees=ONES):
    """Return a certificate of the claim, "shown" or "broken"; raise InvalidClaim."""
    require_claim(plan, claim)
    word = claim[0]
    if word in ("calm", "ends"):
        return decide_states(plan, claim)
    if word == "worth":
        return decide_worth(plan, claim, prices, fees)
    if word == "asks":
        return decide_none(plan, claim, Excuse(None, claim[1], claim[2]))
    return decide_none(plan, claim, Excuse(None, (), ()))
