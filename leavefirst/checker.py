"""The checker: the first fault of a certificate, found without search."""

from leavefirst.claims import is_valid
from leavefirst.clauses import two_clauses
from leavefirst.entering import what_hinders
from leavefirst.forms import has_form
from leavefirst.holding import all_barred, goes_round, is_barred, is_held, place_inside
from leavefirst.plans import is_row
from leavefirst.reached import is_misled, start_states, steps_of
from leavefirst.regimes import more_regimes, regime_of
from leavefirst.ruled import Ruled, ruled_by
from leavefirst.tables import (
    ONES, Excuse, first_drain_in, first_wait_in, is_of_walk, price_of, with_drain, with_wait,
)
from leavefirst.walks import walk


def start_fault(ruled, there):
    """Return the fault of the least start state that is not there, or None."""
    for state in start_states(ruled):
        if state not in there:
            return ("start", state)
    return None


def state_fault(ruled, table, there, misled_may_be):
    """Return the fault of the first state that is misled, unless that may be, or leads to one that lacks, or None."""
    for k, state in enumerate(table):
        if is_misled(ruled.plan, state) and not misled_may_be:
            return ("misled", k)
        if not all([following in there for _, following in steps_of(ruled, state)]):
            return ("lead", k)
    return None


def round_fault(ruled, table):
    """Return the fault of the least barred cut in which a state of the table goes round, or None."""
    for versions in all_barred(ruled):
        for k, state in enumerate(table):
            if is_held(ruled, versions, state):
                return ("round", versions, k)
    return None


def table_fault(ruled, table, kind):
    """Return the first fault of a table of states, or None; kind is "calm", "ends" or "good"."""
    there = {state: True for state in table}
    fault = start_fault(ruled, there)
    if fault is None:
        fault = state_fault(ruled, table, there, kind == "ends")
    return round_fault(ruled, table) if fault is None and kind != "calm" else fault


def good_fault(plan, regime, table):
    """Return the first fault of a good table for a closed regime, or None."""
    return table_fault(ruled_by(plan, regime), table, "good")


def walk_fault(ruled, start, sights):
    """Return the first fault of a misled walk, or None."""
    reads, end = walk(ruled.plan, start, sights)
    if end != ("end", "misled"):
        return ("outcome",)
    return None if what_hinders(ruled, reads) is None else ("possible",)


def hold_fault(ruled, versions, start, sights):
    """Return the first fault of a hold, or None."""
    if not is_barred(ruled, versions):
        return ("cut",)
    place = place_inside(ruled, versions, start, sights)
    if place is None:
        return ("possible",)
    return None if goes_round(ruled.plan, versions, place) else ("end",)


class Entries:
    """The entries of a table of regimes, with the excuse for those that it does not have."""

    def __init__(self, plan, prices, fees, excuse, entries):
        self.plan = plan
        self.prices = prices
        self.fees = fees
        self.excuse = excuse
        self.entries = entries
        self.there = {entry[0]: True for entry in entries}

    def lacks(self, regime):
        """Return whether the closed regime is neither there nor excused; None stands for one with a round."""
        if regime is None or regime in self.there:
            return False
        return not self.excuse.takes(regime, price_of(self.plan, self.prices, self.fees, regime))

    def clause_fault(self, k, entry):
        """Return the fault of the first pair of the clauses of an entry's walk whose regime lacks, or None."""
        regime, start, sights = entry
        waits, drains = two_clauses(self.plan, start, sights)
        for pair in waits:
            if self.lacks(with_wait(self.plan, regime, pair)):
                return ("wait", k, pair)
        for pair in drains:
            if self.lacks(with_drain(self.plan, regime, pair)):
                return ("drain", k, pair)
        return None

    def fault_with_walk(self, k, entry):
        """Return the first fault of an entry with a walk, or None."""
        regime, start, sights = entry
        fault = walk_fault(ruled_by(self.plan, regime), start, sights)
        if fault is None:
            return self.clause_fault(k, entry)
        return ("walk", k) if fault == ("outcome",) else (*fault, k)

    def fault_with_hold(self, k, entry):
        """Return the first fault of an entry with a hold, or None."""
        regime, versions, start, sights = entry
        fault = hold_fault(ruled_by(self.plan, regime), versions, start, sights)
        if fault is not None:
            return (*fault, k)
        order, drained = regime
        for more in more_regimes(self.plan, order, drained):
            if self.lacks(more):
                return ("more", k, more)
        return None

    def fault(self):
        """Return the first fault of the table, or None."""
        if self.lacks(regime_of(self.plan, (), ())):
            return ("root",)
        for k, entry in enumerate(self.entries):
            fault = self.fault_with_walk(k, entry) if is_of_walk(entry) else self.fault_with_hold(k, entry)
            if fault is not None:
                return fault
        return None


def fault_of_states(plan, word, claim, body):
    """Return the first fault of a certificate for a claim on the states of one regime, or None."""
    kind, waits, drains = claim
    ruled = Ruled(plan, waits, drains)
    if word == "shown":
        return table_fault(ruled, body, kind)
    if kind == "calm":
        start, sights = body
        return walk_fault(ruled, start, sights)
    versions, start, sights = body
    return hold_fault(ruled, versions, start, sights)


def fault_of_none(plan, word, waits, drains, body):
    """Return the first fault of a certificate for the claim that only those with some pairs are good, or None."""
    if word == "shown":
        return Entries(plan, ONES, ONES, Excuse(None, waits, drains), body).fault()
    regime, table = body
    pair = first_wait_in(waits, regime)
    if pair is not None:
        return ("wait", pair)
    pair = first_drain_in(drains, regime)
    return good_fault(plan, regime, table) if pair is None else ("drain", pair)


def fault_of_worth(plan, word, worth, body, prices, fees):
    """Return the first fault of a certificate for a claim on the worth of a plan, or None."""
    if body[0] == "more":
        return Entries(plan, prices, fees, Excuse(worth, (), ()), body[1]).fault()
    regime, table = body[:2] if word == "shown" else body[1:]
    price = price_of(plan, prices, fees, regime)
    has_price = price == worth if word == "shown" else price < worth
    if not has_price:
        return ("price",)
    fault = good_fault(plan, regime, table)
    if fault is not None or word == "broken":
        return fault
    # A price of the worth or more is one above the number below it.
    return Entries(plan, prices, fees, Excuse(worth - 1, (), ()), body[2]).fault()


def first_fault(plan, certificate, *, prices=ONES, fees=ONES):
    """Return None for a right certificate, else its first fault."""
    if not is_row(certificate, 3):
        return ("form",)
    word, claim, body = certificate
    if not is_valid(plan, claim):
        return ("claim",)
    if not has_form(plan, word, claim, body):
        return ("form",)
    if claim[0] in ("calm", "ends"):
        return fault_of_states(plan, word, claim, body)
    if claim[0] == "worth":
        return fault_of_worth(plan, word, claim[1], body, prices, fees)
    waits, drains = claim[1:] if claim[0] == "asks" else ((), ())
    return fault_of_none(plan, word, waits, drains, body)
