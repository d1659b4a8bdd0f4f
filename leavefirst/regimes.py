"""Regimes: what follows from waits and drains, and what the drains act on."""

from leavefirst.errors import Tangled
from leavefirst.plans import all_places, names_of


def neighbours(plan):
    """Return the pairs of changes of which the second is directly behind the first in its sign."""
    found = []
    for _, changes in plan[0]:
        for before, after in zip(changes, changes[1:]):
            found.append((before[0], after[0]))
    return found


def steps_from(plan, waits, drains):
    """Return a dict that gives each name the list of those that one pair leads to."""
    steps = {name: [] for name in names_of(plan)}
    close = neighbours(plan)
    for before, after in [*waits, *drains, *close]:
        steps.setdefault(before, []).append(after)
        steps.setdefault(after, [])
    return steps


def all_behind(plan, waits, drains):
    """Return a dict that gives each name a dict of True for all names that follow it."""
    steps = steps_from(plan, waits, drains)
    return {name: behind_one(steps, name) for name in steps}


def behind_one(steps, name):
    """Return a dict of True for all names to which one step or more lead from this one."""
    behind = {}
    todo = list(steps[name])
    while todo:
        after = todo.pop()
        if after not in behind:
            behind[after] = True
            todo.extend(steps[after])
    return behind


def least_in_round(behind):
    """Return the least name that follows itself, or None."""
    return min([name for name in behind if name in behind[name]], default=None)


def untangled(plan, waits, drains):
    """Return what all_behind tells; raise Tangled if there is a round."""
    behind = all_behind(plan, waits, drains)
    name = least_in_round(behind)
    if name is not None:
        raise Tangled(name)
    return behind


def same_or_behind(behind, before, after):
    """Return whether both names are the same or the second follows the first."""
    return before == after or after in behind.get(before, {})


def drained_pairs(names, drains, behind):
    """Return the ascending tuple of the drained pairs of these names."""
    found = {}
    for before, after in drains:
        ahead_of_it = [name for name in names if same_or_behind(behind, name, before)]
        behind_it = [name for name in names if same_or_behind(behind, after, name)]
        for c in ahead_of_it:
            for d in behind_it:
                found[(c, d)] = True
    return tuple(sorted(found))


def is_regime(plan, waits, drains):
    """Return whether the waits and drains have no round in the plan."""
    return least_in_round(all_behind(plan, waits, drains)) is None


def regime_of(plan, waits, drains):
    """Return the closed regime: the pair of the order and the drained pairs."""
    behind = untangled(plan, waits, drains)
    names = names_of(plan)
    order = tuple([(a, b) for a in names for b in names if b in behind[a]])
    return (order, drained_pairs(names, drains, behind))


def way_behind(plan, waits, drains, a, b):
    """Return a shortest tuple of names that leads from a to b by single steps, or None."""
    steps = steps_from(plan, waits, drains)
    reached = {a: True}
    ways = [(a,)]
    while ways:
        longer = []
        for way in ways:
            for name in steps.get(way[-1], []):
                # Looked at ahead of what is reached: a itself may be the name to come back to.
                if name == b:
                    return (*way, name)
                if name not in reached:
                    reached[name] = True
                    longer.append((*way, name))
        ways = longer
    return None


def drain_behind(plan, waits, drains, c, d):
    """Return the least drain by which the pair (c, d) is drained, or None."""
    behind = untangled(plan, waits, drains)
    found = [(a, b) for a, b in drains if same_or_behind(behind, c, a) and same_or_behind(behind, b, d)]
    return min(found, default=None)


def one_pair_more(plan, waits, drains):
    """Return the pairs of waits and drains that come by one pair of the plan's names more."""
    places = all_places(plan)
    found = []
    for a in places:
        for b in places:
            if places[a][0] != places[b][0]:
                found.append(((*waits, (a, b)), drains))
            if a != b:
                found.append((waits, (*drains, (a, b))))
    return found


def more_regimes(plan, waits, drains):
    """Return the ascending tuple of the closed regimes that come of this one by one pair more."""
    here = regime_of(plan, waits, drains)
    found = []
    for more_waits, more_drains in one_pair_more(plan, waits, drains):
        if is_regime(plan, more_waits, more_drains):
            closed = regime_of(plan, more_waits, more_drains)
            if closed != here:
                found.append(closed)
    return tuple(sorted(set(found)))
