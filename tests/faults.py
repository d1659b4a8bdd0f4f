"""Points 18 and 19 of the document done naively: valid claims, the forms, and the first fault of a certificate."""

from tests.helper import closed_of, has_round, plan_names
from tests.naive import all_cuts, clauses_of, entered_from, is_below, is_passable_by_cuts, is_state, led_to, walk_of
from tests.plain import (
    MISLED, ONES, ascends, barred_of, is_closed, never_ends, price_plainly, walkers_in, with_pair,
)


def is_number(value, most):
    return value.__class__ is int and 0 <= value <= most


def is_tuple(value, many=None):
    return value.__class__ is tuple and many in (None, len(value))


def are_pairs(value):
    """Return whether value is a tuple of waits or of drains."""
    return (is_tuple(value) and len(value) <= 90
            and all(is_tuple(pair, 2) and is_number(pair[0], 9) and is_number(pair[1], 9) for pair in value)
            and all(a != b for a, b in value) and ascends(value))


def is_small(plan):
    many = len(plan_names(plan))
    return many <= 3 or many == 4 and len([changes for _, changes in plan[0] if changes]) <= 2


def is_valid(plan, claim):
    """Return whether value is a claim that is valid for the plan."""
    if not is_tuple(claim) or not claim or claim[0].__class__ is not str:
        return False
    word, *more = claim
    if word in ("calm", "ends"):
        return (len(more) == 2 and are_pairs(more[0]) and are_pairs(more[1]) and not has_round(plan, *more)
                and len(plan_names(plan)) <= 5)
    if word == "asks":
        return len(more) == 2 and are_pairs(more[0]) and are_pairs(more[1]) and is_small(plan)
    if word == "worth":
        return len(more) == 1 and is_number(more[0], 2000) and is_small(plan)
    return word == "lost" and not more and is_small(plan)


def are_sights(value):
    return is_tuple(value) and len(value) <= 120 and all(is_number(version, 4) for version in value)


def is_start(plan, value):
    return value.__class__ is int and value in plan[1]


def is_cut(plan, regime, value):
    return (is_tuple(value, len(plan[0])) and all(is_number(version, 4) for version in value)
            and value in all_cuts(plan, *regime))


def is_closed_regime(plan, value):
    return is_tuple(value, 2) and are_pairs(value[0]) and are_pairs(value[1]) and is_closed(plan, value)


def are_states(plan, regime, value):
    return (is_tuple(value) and all(
        is_tuple(state, 3) and is_number(state[0], len(plan[2]) - 1) and is_cut(plan, regime, state[1])
        and is_cut(plan, regime, state[2]) and is_state(plan, *regime, state) for state in value) and ascends(value))


def is_walk_form(plan, value):
    return is_tuple(value, 2) and is_start(plan, value[0]) and are_sights(value[1])


def is_hold_form(plan, regime, value):
    return is_tuple(value, 3) and is_cut(plan, regime, value[0]) and is_walk_form(plan, value[1:])


def is_entry_form(plan, value):
    if not is_tuple(value) or len(value) not in (3, 4) or not is_closed_regime(plan, value[0]):
        return False
    return is_walk_form(plan, value[1:]) if len(value) == 3 else is_hold_form(plan, value[0], value[1:])


def are_entries(plan, value):
    return (is_tuple(value) and all(is_entry_form(plan, entry) for entry in value)
            and ascends([entry[0] for entry in value]))


def is_regime_and_table(plan, regime, table):
    return is_closed_regime(plan, regime) and are_states(plan, regime, table)


def is_of_form(plan, word, claim, body):
    """Return whether word and body are of the forms for a claim that is valid."""
    kind = (word, claim[0])
    if kind in (("shown", "calm"), ("shown", "ends")):
        return are_states(plan, claim[1:], body)
    if kind == ("broken", "calm"):
        return is_walk_form(plan, body)
    if kind == ("broken", "ends"):
        return is_hold_form(plan, claim[1:], body)
    if kind in (("shown", "asks"), ("shown", "lost")):
        return are_entries(plan, body)
    if kind in (("broken", "asks"), ("broken", "lost")):
        return is_tuple(body, 2) and is_regime_and_table(plan, *body)
    if kind == ("shown", "worth"):
        return is_tuple(body, 3) and is_regime_and_table(plan, *body[:2]) and are_entries(plan, body[2])
    if kind == ("broken", "worth") and is_tuple(body) and body and body[0].__class__ is str:
        if body[0] == "less":
            return len(body) == 3 and is_regime_and_table(plan, *body[1:])
        return body[0] == "more" and len(body) == 2 and are_entries(plan, body[1])
    return False


def table_fault(plan, regime, table, kind):
    """Return the first fault of a table of states for calm, for ends, or of a good one."""
    for state in sorted((start, cut, cut) for start in plan[1] for cut in all_cuts(plan, *regime)):
        if state not in table:
            return ("start", state)
    for k, state in enumerate(table):
        if kind != "ends" and plan[2][state[0]] == MISLED:
            return ("misled", k)
        if any(after not in table for after in led_to(plan, *regime, state)):
            return ("lead", k)
    for cut in barred_of(plan, *regime):
        for k, (node, entered, versions) in enumerate(table):
            if (kind != "calm" and entered == entered_from(plan, *regime, cut) and is_below(versions, cut)
                    and never_ends(plan, cut, node)):
                return ("round", cut, k)
    return None


def walk_fault(plan, regime, start, sights):
    reads, end = walk_of(plan, start, sights)
    if end != MISLED:
        return ("outcome",)
    return None if is_passable_by_cuts(plan, *regime, reads) else ("possible",)


def hold_fault(plan, regime, cut, start, sights):
    """Return the first fault of a hold, deeds found by trying all of them."""
    if cut not in barred_of(plan, *regime):
        return ("cut",)
    reads, end = walk_of(plan, start, sights)
    if end[0] != "open" or len(reads) != len(sights) or any(version > cut[sign] for _, sign, version, _ in reads):
        return ("possible",)
    if all(tuple(walker.sights) != sights for walker in walkers_in(plan, *regime, start, cut, sights)):
        return ("possible",)
    return None if never_ends(plan, cut, end[1]) else ("end",)


def entry_fault(plan, k, entry, lacks):
    """Return the first fault of an entry; lacks tells of a regime whether it is neither excused nor there."""
    regime, *told = entry
    if len(told) == 2:
        fault = walk_fault(plan, regime, *told)
        if fault is not None:
            return ("walk" if fault[0] == "outcome" else fault[0], k)
        waits, drains = clauses_of(plan, walk_of(plan, *told)[0])
        for word, pairs in (("wait", waits), ("drain", drains)):
            for pair in pairs:
                more = with_pair(plan, regime, *(((pair,), ()) if word == "wait" else ((), (pair,))))
                if more is not None and lacks(more):
                    return (word, k, pair)
        return None
    fault = hold_fault(plan, regime, *told)
    if fault is not None:
        return (fault[0], k)
    for more in sorted(one_more(plan, regime)):
        if lacks(more):
            return ("more", k, more)
    return None


def one_more(plan, regime):
    """Return the set of the closed regimes that come by one pair more."""
    sign_of = {name: sign for sign, (_, changes) in enumerate(plan[0]) for name, _ in changes}
    pairs = [(a, b) for a in sign_of for b in sign_of if a != b]
    found = {with_pair(plan, regime, (pair,)) for pair in pairs if sign_of[pair[0]] != sign_of[pair[1]]}
    return (found | {with_pair(plan, regime, (), (pair,)) for pair in pairs}) - {None, regime}


def entries_fault(plan, entries, excused):
    there = [entry[0] for entry in entries]

    def lacks(regime):
        return regime not in there and not excused(regime)
    if lacks(closed_of(plan, (), ())):
        return ("root",)
    for k, entry in enumerate(entries):
        fault = entry_fault(plan, k, entry, lacks)
        if fault is not None:
            return fault
    return None


def worth_fault(plan, word, worth, body, prices, fees):
    def price(regime):
        return price_plainly(plan, prices, fees, *regime)
    if word == "broken" and body[0] == "more":
        return entries_fault(plan, body[1], lambda regime: price(regime) > worth)
    if word == "broken":
        return ("price",) if price(body[1]) >= worth else table_fault(plan, body[1], body[2], "good")
    if price(body[0]) != worth:
        return ("price",)
    return table_fault(plan, body[0], body[1], "good") or entries_fault(
        plan, body[2], lambda regime: price(regime) >= worth)


def fault_of(plan, certificate, prices=ONES, fees=ONES):
    """Return what first_fault should."""
    if not is_tuple(certificate, 3):
        return ("form",)
    word, claim, body = certificate
    if not is_valid(plan, claim):
        return ("claim",)
    if word.__class__ is not str or not is_of_form(plan, word, claim, body):
        return ("form",)
    if claim[0] in ("calm", "ends"):
        if word == "shown":
            return table_fault(plan, claim[1:], body, claim[0])
        return (walk_fault if claim[0] == "calm" else hold_fault)(plan, claim[1:], *body)
    if claim[0] == "worth":
        return worth_fault(plan, word, claim[1], body, prices, fees)
    waits, drains = claim[1:] if claim[0] == "asks" else ((), ())
    if word == "shown":
        return entries_fault(plan, body, lambda regime: bool(set(regime[0]) & set(waits) | set(regime[1]) & set(drains)))
    for name, pairs, held in (("wait", waits, body[0][0]), ("drain", drains, body[0][1])):
        for pair in pairs:
            if pair in held:
                return (name, pair)
    return table_fault(plan, *body, "good")
