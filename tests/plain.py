"""Points 14 to 17 of the document done naively: holds, prices, regimes, and what certificates must be."""

import functools
import itertools

from tests.helper import closed_of, has_round, plan_names
from tests.naive import (
    Walker, all_cuts, clauses_of, entered_from, held, is_below, is_passable_by_cuts, is_state, led_to, next_node,
    states_reached, versions_of, walk_of,
)

ONES = (1,) * 10
MISLED = ("end", "misled")


@functools.lru_cache(maxsize=None)
def barred_of(plan, waits, drains):
    """Return the ascending list of the barred cuts."""
    order, drained = closed_of(plan, waits, drains)
    names, found = set(plan_names(plan)), []
    for cut in all_cuts(plan, waits, drains):
        done, entered = held(plan, cut), held(plan, entered_from(plan, waits, drains, cut))
        coming = [b for b in names - done if all(a in done for a, other in order if other == b)]
        if done != names and all(any(b == other and a not in entered for a, other in drained) for b in coming):
            found.append(cut)
    return found


def never_ends(plan, versions, node):
    """Return whether a walker reads for ever while just the versions stand."""
    for _ in range(20):
        if plan[2][node][0] == "end":
            return False
        sign = plan[2][node][1]
        node = next_node(plan, node, versions_of(plan, sign)[versions[sign]])
    return True


def moved(walker, deed):
    """Return another walker who is where this one comes by the deed, or None if it cannot be carried out."""
    other = Walker.__new__(Walker)
    other.plan, other.node, other.place = walker.plan, walker.node, walker.place
    other.order, other.drained, other.entered = walker.order, walker.drained, walker.entered
    other.done, other.sights = list(walker.done), list(walker.sights)
    return other if other.tried(deed) else None


def entered_walker(plan, waits, drains, start, cut):
    """Return a walker who enters when just the changes in the cut that this cut enters are done."""
    walker = Walker(plan, waits, drains, start)
    rest = held(plan, entered_from(plan, waits, drains, cut))
    while rest:
        rest -= {name for name in sorted(rest) if walker.tried(("change", name))}
    assert walker.tried(("enter",))
    return walker


def walkers_in(plan, waits, drains, start, cut, sights=None):
    """Return all walkers who come from the start by looks and changes of the cut, those who see just the sights."""
    first = entered_walker(plan, waits, drains, start, cut)
    found, todo = [], [first]
    reached = set()
    while todo:
        walker = todo.pop()
        mark = (frozenset(walker.done), walker.place, None if sights is None else len(walker.sights))
        if mark in reached:
            continue
        reached.add(mark)
        found.append(walker)
        for deed in [("look",)] + [("change", name) for name in sorted(held(plan, cut))]:
            other = moved(walker, deed)
            if other is not None and (sights is None or tuple(other.sights) == sights[:len(other.sights)]):
                todo.append(other)
    return found


def some_hold(plan, waits, drains):
    """Return a triple (cut, start, place) of a walker who can come to go round in a barred cut, or None."""
    for cut in barred_of(plan, waits, drains):
        for start in plan[1]:
            for walker in walkers_in(plan, waits, drains, start, cut):
                if walker.inside() and never_ends(plan, cut, walker.place):
                    return (cut, start, walker.place)
    return None


def is_hold(plan, waits, drains, hold):
    """Return whether a triple (versions, start, sights) of the right kinds is a hold."""
    cut, start, sights = hold
    if cut not in barred_of(plan, waits, drains) or start not in plan[1] or len(sights) > 120:
        return False
    reads, end = walk_of(plan, start, sights)
    if end[0] != "open" or len(reads) != len(sights) or any(version > cut[sign] for _, sign, version, _ in reads):
        return False
    seen = [walker for walker in walkers_in(plan, waits, drains, start, cut, sights)
            if tuple(walker.sights) == sights]
    return bool(seen) and never_ends(plan, cut, end[1])


def is_bewildering(plan, waits, drains, told):
    """Return whether a pair (start, sights) is a misled walk that is passable."""
    start, sights = told
    reads, end = walk_of(plan, start, sights)
    return start in plan[1] and len(sights) <= 120 and end == MISLED and is_passable_by_cuts(plan, waits, drains, reads)


@functools.lru_cache(maxsize=None)
def is_calm_plainly(plan, waits, drains):
    return all(plan[2][state[0]] != MISLED for state in states_reached(plan, waits, drains))


@functools.lru_cache(maxsize=None)
def is_good(plan, waits, drains):
    """Return whether the regime is good: calm, and without a hold."""
    return is_calm_plainly(plan, waits, drains) and some_hold(plan, waits, drains) is None


def price_plainly(plan, prices, fees, waits, drains):
    """Return the price of a regime."""
    sign_of = {name: sign for sign, (_, changes) in enumerate(plan[0]) for name, _ in changes}
    order, drained = closed_of(plan, waits, drains)
    return sum(prices[b] for a, b in order if sign_of[a] != sign_of[b]) + sum(fees[b] for _, b in drained)


@functools.lru_cache(maxsize=None)
def all_closed(plan):
    """Return the ascending list of all closed regimes of a plan."""
    names = plan_names(plan)
    orders = {closed_of(plan, waits, ())[0]
              for many in range(len(names) * (len(names) - 1) // 2 + 1)
              for waits in itertools.combinations(itertools.permutations(names, 2), many)
              if not has_round(plan, waits, ())}
    return sorted({closed_of(plan, order, drains) for order in orders
                   for many in range(len(order) + 1) for drains in itertools.combinations(order, many)})


def is_closed(plan, regime):
    """Return whether a pair of tuples of pairs is a closed regime."""
    return not has_round(plan, *regime) and closed_of(plan, *regime) == regime


def ascends(rows):
    return all(a < b for a, b in zip(rows, rows[1:]))


def is_table(plan, waits, drains, table):
    """Return whether a tuple of states is a table of states."""
    needed = {(start, cut, cut) for start in plan[1] for cut in all_cuts(plan, waits, drains)}
    needed |= {after for state in table for after in led_to(plan, waits, drains, state)}
    return ascends(table) and needed <= set(table) and all(is_state(plan, waits, drains, row) for row in table)


def is_unmisled(plan, table):
    return all(plan[2][state[0]] != MISLED for state in table)


def is_without_ring(plan, waits, drains, table):
    """Return whether no state of the table lets a walker go round in a barred cut that it holds up."""
    return not any(entered == entered_from(plan, waits, drains, cut) and is_below(versions, cut)
                   and never_ends(plan, cut, node)
                   for cut in barred_of(plan, waits, drains) for node, entered, versions in table)


def is_good_table(plan, regime, table):
    return (is_closed(plan, regime) and is_table(plan, *regime, table) and is_unmisled(plan, table)
            and is_without_ring(plan, *regime, table))


def with_pair(plan, regime, wait=(), drain=()):
    """Return the closed regime with one wait or drain more, each told as a tuple of at most one pair, or None."""
    waits, drains = regime[0] + wait, regime[1] + drain
    return None if has_round(plan, waits, drains) else closed_of(plan, waits, drains)


def asked_plainly(plan, entry):
    """Return the set of the regimes that an entry asks for."""
    regime, names = entry[0], plan_names(plan)
    if len(entry) == 3:
        waits, drains = clauses_of(plan, walk_of(plan, entry[1], entry[2])[0])
    else:
        sign_of = {name: sign for sign, (_, changes) in enumerate(plan[0]) for name, _ in changes}
        drains = tuple(itertools.permutations(names, 2))
        waits = tuple((a, b) for a, b in drains if sign_of[a] != sign_of[b])
    found = {with_pair(plan, regime, (pair,)) for pair in waits}
    return (found | {with_pair(plan, regime, (), (pair,)) for pair in drains}) - {None, regime}


def is_entry(plan, entry):
    regime, *told = entry
    shows = is_bewildering if len(told) == 2 else is_hold
    return is_closed(plan, regime) and shows(plan, *regime, tuple(told))


def is_regime_table(plan, entries, excused):
    """Return whether a tuple of entries is a table of regimes; excused tells of a regime whether it is excused."""
    regimes = [entry[0] for entry in entries]
    needed = {closed_of(plan, (), ())}.union(*(asked_plainly(plan, entry) for entry in entries))
    return (ascends(regimes) and all(is_entry(plan, entry) for entry in entries)
            and all(regime in regimes or excused(regime) for regime in needed))


def has_any(regime, waits, drains):
    return bool(set(regime[0]) & set(waits) or set(regime[1]) & set(drains))


def holds_for_states(plan, word, claim, body):
    """Return whether a certificate for calm or ends is right."""
    kind, *regime = claim
    if word == "broken":
        return (is_bewildering if kind == "calm" else is_hold)(plan, *regime, body)
    shows = is_unmisled(plan, body) if kind == "calm" else is_without_ring(plan, *regime, body)
    return is_table(plan, *regime, body) and shows


def holds_for_worth(plan, word, claim, body, prices, fees):
    """Return whether a certificate for worth is right."""
    def price(regime):
        return price_plainly(plan, prices, fees, *regime)
    worth = claim[1]
    if word == "shown":
        regime, table, entries = body
        return (price(regime) == worth and is_good_table(plan, regime, table)
                and is_regime_table(plan, entries, lambda other: price(other) >= worth))
    if body[0] == "more":
        return is_regime_table(plan, body[1], lambda other: price(other) > worth)
    return price(body[1]) < worth and is_good_table(plan, *body[1:])


def is_right(plan, certificate, prices=ONES, fees=ONES):
    """Return whether a certificate that is of the forms, and whose claim is valid, is right."""
    word, claim, body = certificate
    if claim[0] in ("calm", "ends"):
        return holds_for_states(plan, *certificate)
    if claim[0] == "worth":
        return holds_for_worth(plan, *certificate, prices, fees)
    some = claim[1:] if claim[0] == "asks" else ((), ())
    if word == "broken":
        return not has_any(body[0], *some) and is_good_table(plan, *body)
    return is_regime_table(plan, body, lambda regime: has_any(regime, *some))


def is_true(plan, claim, prices=ONES, fees=ONES):
    """Return whether a claim that is valid is true, by going through all states or all closed regimes."""
    if claim[0] == "calm":
        return is_calm_plainly(plan, *claim[1:])
    if claim[0] == "ends":
        return some_hold(plan, *claim[1:]) is None
    good = [regime for regime in all_closed(plan) if is_good(plan, *regime)]
    if claim[0] == "asks":
        return all(has_any(regime, *claim[1:]) for regime in good)
    if claim[0] == "lost":
        return not good
    return bool(good) and min(price_plainly(plan, prices, fees, *regime) for regime in good) == claim[1]


def still_end(plan, versions, node):
    """Return the outcome of a walker while just the versions stand, or None if it never ends."""
    if never_ends(plan, versions, node):
        return None
    while plan[2][node][0] == "read":
        sign = plan[2][node][1]
        node = next_node(plan, node, versions_of(plan, sign)[versions[sign]])
    return plan[2][node][1]


def some_busy_house(chance, shapes, most_reads=6):
    """Return a plan in which nobody is misled at first and at last; shapes are numbers of changes, sign by sign."""
    while True:
        plan = some_mixed_house(chance, chance.choice(shapes), chance.randint(2, most_reads))
        first, last = [0] * len(plan[0]), [len(changes) for _, changes in plan[0]]
        if all(still_end(plan, versions, start) != "misled" for versions in (first, last) for start in plan[1]):
            return plan


def some_mixed_house(chance, sizes, reads):
    """Return a plan whose versions differ in value, with two ends behind its reads."""
    names = iter(chance.sample(range(10), sum(sizes)))
    signs = tuple((0, tuple((next(names), k % 3 + 1) for k in range(size))) for size in sizes)
    nodes = []
    for place in range(reads):
        sign = chance.choice([sign for sign, size in enumerate(sizes) if size])
        values = sorted(chance.sample(range(sizes[sign] + 1), chance.randint(1, sizes[sign] + 1)))
        low = 0 if chance.random() < 0.4 else place + 1
        branches = tuple((value, chance.randint(low, reads + 1)) for value in values)
        nodes.append(("read", sign, branches, chance.randint(low, reads + 1)))
    starts = (0,) if chance.random() < 0.7 else (0, 1)
    return (signs, starts, (*nodes, ("end", "good"), MISLED))
