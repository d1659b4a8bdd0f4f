"""Forms: whether values are what certificates are made of, whatever is shown by them."""

from leavefirst.claims import are_pairs
from leavefirst.plans import is_below, is_row, is_start
from leavefirst.regimes import is_regime, regime_of
from leavefirst.ruled import Ruled, none_above, ruled_by

# A sign has at most so many versions.
VERSIONS = 5
MOST_SIGHTS = 120


def are_sights(value):
    """Return whether value is a tuple of sights that a certificate may tell."""
    if not isinstance(value, tuple) or len(value) > MOST_SIGHTS:
        return False
    return all([is_below(version, VERSIONS) for version in value])


def is_walk(plan, value):
    """Return whether value is a pair of a start and sights."""
    return is_row(value, 2) and is_start(plan, value[0]) and are_sights(value[1])


def is_cut(ruled, value):
    """Return whether value is a cut."""
    signs = ruled.plan[0]
    if not is_row(value, len(signs)):
        return False
    if not all([is_below(version, len(changes) + 1) for version, (_, changes) in zip(value, signs)]):
        return False
    return ruled.is_cut(value)


def is_hold(ruled, value):
    """Return whether value is a triple of a cut, a start and sights."""
    return is_row(value, 3) and is_cut(ruled, value[0]) and is_walk(ruled.plan, value[1:])


def is_state(ruled, value):
    """Return whether value is a state."""
    if not is_row(value, 3) or not is_below(value[0], len(ruled.plan[2])):
        return False
    _, entered, versions = value
    if not is_cut(ruled, entered) or not is_cut(ruled, versions):
        return False
    return none_above(entered, versions) and none_above(ruled.entry(versions), entered)


def are_states(ruled, value):
    """Return whether value is a strictly ascending tuple of states."""
    if not isinstance(value, tuple):
        return False
    # Stopped at the first wrong one: there are few states, but a value may be long.
    before = ()
    for state in value:
        if not is_state(ruled, state) or not before < state:
            return False
        before = state
    return True


def is_closed(plan, value):
    """Return whether value is a closed regime."""
    if not is_row(value, 2) or not are_pairs(value[0]) or not are_pairs(value[1]):
        return False
    order, drained = value
    return is_regime(plan, order, drained) and regime_of(plan, order, drained) == value


def is_entry(plan, value):
    """Return whether value is a closed regime with a walk, or with a hold, behind it."""
    if not isinstance(value, tuple) or not value or not is_closed(plan, value[0]):
        return False
    return is_walk(plan, value[1:]) or is_hold(ruled_by(plan, value[0]), value[1:])


def are_entries(plan, value):
    """Return whether value is a tuple of entries, strictly ascending by regime."""
    if not isinstance(value, tuple):
        return False
    before = ()
    for entry in value:
        if not is_entry(plan, entry) or not before < entry[0]:
            return False
        before = entry[0]
    return True


def is_good_one(plan, value):
    """Return whether value is a pair of a closed regime and a tuple of its states."""
    if not is_row(value, 2) or not is_closed(plan, value[0]):
        return False
    return are_states(ruled_by(plan, value[0]), value[1])


def has_form_of_states(plan, word, claim, body):
    """Return whether a body has the form for a claim on the states of one regime."""
    kind, waits, drains = claim
    ruled = Ruled(plan, waits, drains)
    if word == "shown":
        return are_states(ruled, body)
    return is_walk(plan, body) if kind == "calm" else is_hold(ruled, body)


def has_form_of_worth(plan, word, body):
    """Return whether a body has the form for a claim on the worth of a plan."""
    if word == "shown":
        return is_row(body, 3) and is_good_one(plan, body[:2]) and are_entries(plan, body[2])
    if is_row(body, 3) and body[0] == "less":
        return is_good_one(plan, body[1:])
    return is_row(body, 2) and body[0] == "more" and are_entries(plan, body[1])


def has_form(plan, word, claim, body):
    """Return whether a word and a body have the forms for a claim that is valid."""
    if word not in ("shown", "broken"):
        return False
    if claim[0] in ("calm", "ends"):
        return has_form_of_states(plan, word, claim, body)
    if claim[0] == "worth":
        return has_form_of_worth(plan, word, body)
    return are_entries(plan, body) if word == "shown" else is_good_one(plan, body)
