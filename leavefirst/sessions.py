"""Sessions: a plan with prices and fees that is edited, with checkpoints and records of certificates."""

from leavefirst.checker import first_fault
from leavefirst.claims import decide
from leavefirst.errors import (
    InvalidFees, InvalidPrices, LimitExceeded, UnknownCheckpoint, UnknownName, UnknownPlace, UnknownRecord, UnknownSign,
)
from leavefirst.passages import Passage
from leavefirst.plans import DIGITS, is_below, is_row, place_of, require_plan
from leavefirst.tables import ONES

# Prices and fees are below this.
TOO_MUCH = 100
MOST_CHECKPOINTS = 8
MOST_RECORDS = 16


def are_prices(value):
    """Return whether value is a tuple of prices, or of fees."""
    return is_row(value, DIGITS) and all([is_below(price, TOO_MUCH) for price in value])


def put_at(row, place, part):
    """Return the tuple with another part in this place, or behind all if the place is their number."""
    return (*row[:place], part, *row[place + 1:])


class Session:
    """A plan, prices and fees, as edits have left them, with checkpoints and records."""

    def __init__(self, plan, *, prices=ONES, fees=ONES):
        self.house = require_plan(plan)
        if not are_prices(prices):
            raise InvalidPrices()
        if not are_prices(fees):
            raise InvalidFees()
        self.price_row = prices
        self.fee_row = fees
        self.checkpoints = []
        self.records = []

    def __len__(self):
        return len(self.records)

    def plan(self):
        """Return the plan as it is now."""
        return self.house

    def prices(self):
        """Return the prices as they are now."""
        return self.price_row

    def fees(self):
        """Return the fees as they are now."""
        return self.fee_row

    def passage(self, waits=(), drains=()):
        """Return a new passage of the plan as it is now."""
        return Passage(self.house, waits, drains)

    def require_sign(self, sign):
        """Raise UnknownSign if the value is not the index of a sign."""
        if not is_below(sign, len(self.house[0])):
            raise UnknownSign(sign)

    def set_sign(self, sign, row):
        """Put another pair of a value and changes in the place of a sign, if the outcome is a plan."""
        signs, starts, nodes = self.house
        self.house = require_plan((put_at(signs, sign, row), starts, nodes))

    def put_change(self, sign, place, name, value):
        """Put a change into a sign, before the one in this place."""
        self.require_sign(sign)
        first, changes = self.house[0][sign]
        if not is_below(place, len(changes) + 1):
            raise UnknownPlace(place)
        self.set_sign(sign, (first, (*changes[:place], (name, value), *changes[place:])))

    def take_change(self, name):
        """Take the change of this name away."""
        sign, version = place_of(self.house, name)
        first, changes = self.house[0][sign]
        self.set_sign(sign, (first, (*changes[:version - 1], *changes[version:])))

    def set_value(self, name, value):
        """Set the value of the change of this name."""
        sign, version = place_of(self.house, name)
        first, changes = self.house[0][sign]
        self.set_sign(sign, (first, put_at(changes, version - 1, (name, value))))

    def set_first(self, sign, value):
        """Set the value of a sign's version 0."""
        self.require_sign(sign)
        self.set_sign(sign, (value, self.house[0][sign][1]))

    def put_node(self, place, node):
        """Put a node in this place."""
        signs, starts, nodes = self.house
        if not is_below(place, len(nodes) + 1):
            raise UnknownPlace(place)
        self.house = require_plan((signs, starts, put_at(nodes, place, node)))

    def set_starts(self, starts):
        """Set the starts."""
        signs, _, nodes = self.house
        self.house = require_plan((signs, starts, nodes))

    def set_price(self, name, price):
        """Set the price of a name."""
        if not is_below(name, DIGITS):
            raise UnknownName(name)
        row = put_at(self.price_row, name, price)
        if not are_prices(row):
            raise InvalidPrices()
        self.price_row = row

    def set_fee(self, name, fee):
        """Set the fee of a name."""
        if not is_below(name, DIGITS):
            raise UnknownName(name)
        row = put_at(self.fee_row, name, fee)
        if not are_prices(row):
            raise InvalidFees()
        self.fee_row = row

    def checkpoint(self):
        """Keep the plan, the prices and the fees; return the number of the checkpoint."""
        if len(self.checkpoints) >= MOST_CHECKPOINTS:
            raise LimitExceeded(MOST_CHECKPOINTS)
        self.checkpoints.append((self.house, self.price_row, self.fee_row))
        return len(self.checkpoints) - 1

    def kept_at(self, number):
        """Return (plan, prices, fees) of a checkpoint."""
        if not is_below(number, len(self.checkpoints)):
            raise UnknownCheckpoint(number)
        return self.checkpoints[number]

    def restore(self, number):
        """Bring the plan, the prices and the fees of a checkpoint back."""
        self.house, self.price_row, self.fee_row = self.kept_at(number)

    def plan_at(self, number):
        """Return the plan of a checkpoint."""
        return self.kept_at(number)[0]

    def decide(self, claim):
        """Return a certificate of the claim."""
        return decide(self.house, claim, prices=self.price_row, fees=self.fee_row)

    def record(self, claim):
        """Decide the claim, and keep the certificate; return the number of the record."""
        if len(self.records) >= MOST_RECORDS:
            raise LimitExceeded(MOST_RECORDS)
        self.records.append(self.decide(claim))
        return len(self.records) - 1

    def recorded(self, number):
        """Return the certificate of a record."""
        if not is_below(number, len(self.records)):
            raise UnknownRecord(number)
        return self.records[number]

    def standing(self, number):
        """Return None if the record stands, else its first fault now."""
        return first_fault(self.house, self.recorded(number), prices=self.price_row, fees=self.fee_row)
