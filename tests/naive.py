"""Points 5 and 8 to 13 of the document done naively, and plans with nodes to try them on."""

import functools
import itertools

from tests.helper import closed_of, has_round, plan_names, some_pairs


def some_house(chance, most_changes=4, most_nodes=6, most_signs=4):
    """Return a plan with few values, so that walkers often meet branches; chance is a random.Random."""
    names = chance.sample(range(10), chance.randint(0, most_changes))
    rows = [[] for _ in range(chance.randint(1, most_signs))]
    for name in names:
        chance.choice([row for row in rows if len(row) < 4] or [[]]).append((name, chance.randint(0, 2)))
    signs = tuple((chance.randint(0, 2), tuple(row)) for row in rows)
    many = chance.randint(1, most_nodes)
    nodes = tuple(some_node(chance, len(signs), many) for _ in range(many))
    starts = sorted({chance.randrange(many) for _ in range(chance.randint(1, 3))})
    return (signs, tuple(starts), nodes)


def some_node(chance, signs, many):
    """Return a node of a plan with so many signs and so many nodes."""
    if chance.random() < 0.35:
        return ("end", chance.choice(("good", "misled")))
    values = sorted(chance.sample(range(3), chance.randint(0, 3)))
    branches = tuple((value, chance.randrange(many)) for value in values)
    return ("read", chance.randrange(signs), branches, chance.randrange(many))


def some_ruled(chance, *limits):
    """Return a plan with nodes and waits and drains that have no round in it."""
    while True:
        plan = some_house(chance, *limits)
        names = plan_names(plan)
        among = names if len(names) > 1 and chance.random() < 0.7 else range(10)
        waits, drains = [tuple(sorted({tuple(chance.sample(list(among), 2)) for _ in range(chance.randint(0, 2))}))
                         for _ in range(2)]
        if chance.random() < 0.2:
            waits, drains = some_pairs(chance, 3), some_pairs(chance, 3)
        if not has_round(plan, waits, drains):
            return plan, waits, drains


def versions_of(plan, sign):
    """Return the values of the versions of a sign, in order."""
    first, changes = plan[0][sign]
    return [first, *(value for _, value in changes)]


def next_node(plan, node, value):
    """Return where a walker goes from a read by a value."""
    return dict(plan[2][node][2]).get(value, plan[2][node][3])


def walk_of(plan, node, sights):
    """Return what walk should."""
    if plan[2][node][0] == "end":
        return ((), plan[2][node])
    if not sights:
        return ((), ("open", node))
    sign = plan[2][node][1]
    if sights[0] not in range(len(versions_of(plan, sign))):
        return ((), ("astray", node))
    value = versions_of(plan, sign)[sights[0]]
    reads, end = walk_of(plan, next_node(plan, node, value), sights[1:])
    return (((node, sign, sights[0], value), *reads), end)


def all_versions(plan):
    """Return the ascending list of all tuples of versions, cuts or not."""
    return list(itertools.product(*(range(len(changes) + 1) for _, changes in plan[0])))


def held(plan, versions):
    """Return the set of the names of the changes in the versions."""
    return {name for (_, changes), version in zip(plan[0], versions) for name, _ in changes[:version]}


@functools.lru_cache(maxsize=None)
def all_cuts(plan, waits, drains):
    """Return the ascending list of all cuts."""
    order, _ = closed_of(plan, waits, drains)
    return [versions for versions in all_versions(plan)
            if all(a in held(plan, versions) for a, b in order if b in held(plan, versions))]


def least_with(plan, waits, drains, names):
    """Return the least cut that has all these names: there must be one that is below all others."""
    found = [cut for cut in all_cuts(plan, waits, drains) if set(names) <= held(plan, cut)]
    least = [cut for cut in found if all(is_below(cut, other) for other in found)]
    assert len(least) == 1
    return least[0]


def is_below(some, others):
    """Return whether no version of the first tuple is greater."""
    return all(a <= b for a, b in zip(some, others))


@functools.lru_cache(maxsize=None)
def entered_from(plan, waits, drains, cut):
    """Return the cut that the cut enters."""
    _, drained = closed_of(plan, waits, drains)
    return least_with(plan, waits, drains, [a for a, b in drained if b in held(plan, cut)])


def names_at(plan, read):
    """Return the names that begin and that end what a read sees, each in a list that may be empty."""
    _, sign, version, _ = read
    changes = [name for name, _ in plan[0][sign][1]]
    return changes[version - 1:version] if version else [], changes[version:version + 1]


class Walker:
    """One walker, and the names of the changes that are done, as point 10 tells; node is where it will enter."""

    def __init__(self, plan, waits, drains, node):
        self.plan, self.node, self.place = plan, node, None
        self.order, self.drained = closed_of(plan, waits, drains)
        self.done, self.entered, self.sights = [], None, []

    def stands(self):
        """Return the versions that stand."""
        return tuple(sum(name in self.done for name, _ in changes) for _, changes in self.plan[0])

    def inside(self):
        """Return whether the walker is inside."""
        return self.place is not None and self.plan[2][self.place][0] == "read"

    def tried(self, deed):
        """Carry the deed out if it can be; return whether it can."""
        if deed == ("enter",) and self.place is None:
            self.place, self.entered = self.node, list(self.done)
        elif deed == ("look",) and self.inside():
            sign = self.plan[2][self.place][1]
            version = self.stands()[sign]
            self.sights.append(version)
            self.place = next_node(self.plan, self.place, versions_of(self.plan, sign)[version])
        elif deed[0] == "change" and self.may_be_done(deed[1]):
            self.done.append(deed[1])
        else:
            return False
        return True

    def may_be_done(self, name):
        """Return whether the change can be carried out."""
        if name not in plan_names(self.plan) or name in self.done:
            return False
        if any(a not in self.done for a, b in self.order if b == name):
            return False
        return not self.inside() or all(a in self.entered for a, b in self.drained if b == name)


def told_by(plan, waits, drains, node, deeds):
    """Return (number of deeds that were carried out before one was stuck, or None, and what carry tells then)."""
    walker, stuck = Walker(plan, waits, drains, node), None
    for k, deed in enumerate(deeds):
        if not walker.tried(deed):
            stuck = k
            break
    entered = None
    if walker.entered is not None:
        entered = tuple(sum(name in walker.entered for name, _ in changes) for _, changes in plan[0])
    return stuck, (tuple(walker.sights), walker.stands(), walker.place, entered)


def seen_from(plan, waits, drains, node, most):
    """Return the set of all sights, at most so many, that a walker from the node can have by any deeds."""
    found, reached, todo = set(), set(), [((), None, (), None)]
    while todo:
        done, entered, sights, place = todo.pop()
        if (frozenset(done), entered, sights) in reached:
            continue
        reached.add((frozenset(done), entered, sights))
        if entered is not None:
            found.add(sights)
        for deed in [("enter",), ("look",)] + [("change", name) for name in plan_names(plan)]:
            walker = Walker(plan, waits, drains, node)
            walker.done, walker.sights, walker.place = list(done), list(sights), place
            walker.entered = None if entered is None else list(entered)
            if len(sights) + (deed == ("look",)) <= most and walker.tried(deed):
                after = None if walker.entered is None else tuple(sorted(walker.entered))
                todo.append((tuple(walker.done), after, tuple(walker.sights), walker.place))
    return found


def hindered_by(plan, waits, drains, reads):
    """Return what hindrance should for a walk of these reads."""
    order, drained = closed_of(plan, waits, drains)
    many = range(len(reads))
    begun = [names_at(plan, read)[0] for read in reads]
    ended = [names_at(plan, read)[1] for read in reads]
    for late in many:
        for early in range(late):
            if any(a == b or (a, b) in order for a in ended[late] for b in begun[early]):
                return ("wait", early, late)
    for j in many:
        for i in many:
            if any((a, b) in drained for a in ended[i] for b in begun[j]):
                return ("drain", i, j)
    return None


def is_passable_by_cuts(plan, waits, drains, reads):
    """Return whether a walk of these reads is passable, by the cuts U and D of point 11."""
    order, _ = closed_of(plan, waits, drains)
    upper = least_with(plan, waits, drains, [name for read in reads for name in names_at(plan, read)[0]])
    lower = entered_from(plan, waits, drains, upper)
    for late, read in enumerate(reads):
        for earlier in reads[:late]:
            if any(a == b or (a, b) in order for a in names_at(plan, read)[1] for b in names_at(plan, earlier)[0]):
                return False
    return not any(name in held(plan, lower) for read in reads for name in names_at(plan, read)[1])


def is_state(plan, waits, drains, state):
    """Return whether this is a state, as point 12 tells."""
    _, entered, versions = state
    good = all_cuts(plan, waits, drains)
    if entered not in good or versions not in good or not is_below(entered, versions):
        return False
    return is_below(entered_from(plan, waits, drains, versions), entered)


def led_to(plan, waits, drains, state):
    """Return the ascending list of the states to which a state leads."""
    node, entered, versions = state
    if plan[2][node][0] == "end":
        return []
    sign, found = plan[2][node][1], []
    for version in range(versions[sign], len(versions_of(plan, sign))):
        names = [name for name, _ in plan[0][sign][1][:version]]
        higher = tuple(map(max, versions, least_with(plan, waits, drains, names)))
        target = next_node(plan, node, versions_of(plan, sign)[version])
        if is_state(plan, waits, drains, (target, entered, higher)):
            found.append((target, entered, higher))
    return sorted(found)


def states_reached(plan, waits, drains):
    """Return the ascending list of the reached states."""
    found = {(start, cut, cut) for start in plan[1] for cut in all_cuts(plan, waits, drains)}
    while True:
        more = {after for state in found for after in led_to(plan, waits, drains, state)} - found
        if not more:
            return sorted(found)
        found |= more


def clauses_of(plan, reads):
    """Return the two clauses of a walk of these reads, by all pairs of them."""
    sign_of = {name: sign for sign, (_, changes) in enumerate(plan[0]) for name, _ in changes}
    names = {sign: [name for name, _ in changes] for sign, (_, changes) in enumerate(plan[0])}
    waits, drains = set(), set()
    for early, one in enumerate(reads):
        for other in reads[early + 1:]:
            waits |= {(a, b) for a in names_at(plan, other)[1] for b in names_at(plan, one)[0]
                      if sign_of[a] != sign_of[b]}
            for a in names_at(plan, one)[1]:
                for b in names_at(plan, other)[0]:
                    row = names[sign_of[a]]
                    if a != b and not (b in row and row.index(b) < row.index(a)):
                        drains.add((a, b))
    return tuple(sorted(waits)), tuple(sorted(drains))
