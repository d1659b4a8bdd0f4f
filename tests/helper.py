"""What several tests share: plans, any values, and the definitions of the document done naively."""

import random

END = (("end", "good"),)
HALL, FIRST, SECOND = (0, ((0, 1),)), (1, ((1, 0),)), (0, ((2, 1),))
HOUSE_NODES = (
    ("read", 0, ((0, 1), (1, 2)), 4), ("read", 1, ((1, 3),), 4), ("read", 2, ((1, 3),), 4),
    ("end", "good"), ("end", "misled"),
)
HOUSE = ((HALL, FIRST, SECOND), (0,), HOUSE_NODES)

ODD = (
    None, True, False, -1, -10 ** 29, 10 ** 29, "", "0", "read", "good", (), (0,), (0, 0), [], [0], {}, {0: 0},
    {"a": [1, {2: (3,)}]},
)


def deep(value, depth):
    """Return value inside of as many lists, dicts and tuples as depth tells."""
    for k in range(depth):
        value = ([value], {k: value}, (value,))[k % 3]
    return value


def plan_of(*rows):
    """Return a plan with a sign for each row of names; all values are 0."""
    return (tuple((0, tuple((name, 0) for name in row)) for row in rows), (0,), END)


def raised(error, call, *args):
    """Return the error of this very class that the call raises, or None if it raises nothing."""
    try:
        call(*args)
    except error as caught:
        assert caught.__class__ is error, caught
        return caught
    return None


def single_steps(plan, waits, drains):
    """Return the set of waits, drains and pairs directly behind each other in a sign."""
    pairs = set(waits) | set(drains)
    for _, changes in plan[0]:
        pairs |= {(changes[k][0], changes[k + 1][0]) for k in range(len(changes) - 1)}
    return pairs


def following(plan, waits, drains):
    """Return the set of all pairs that follow, as point 6 defines them."""
    pairs = set(waits) | set(drains)
    for _, changes in plan[0]:
        pairs |= {(a, b) for k, (a, _) in enumerate(changes) for b, _ in changes[k + 1:]}
    while True:
        more = {(a, d) for a, b in pairs for c, d in pairs if b == c} - pairs
        if not more:
            return pairs
        pairs |= more


def plan_names(plan):
    return sorted(name for _, changes in plan[0] for name, _ in changes)


def drains_of(pairs, drains, c, d):
    """Return the ascending list of the drains by which (c, d) is drained, as point 7 defines it."""
    return sorted((a, b) for a, b in drains if (c == a or (c, a) in pairs) and (d == b or (b, d) in pairs))


def closed_of(plan, waits, drains):
    """Return the closed regime, as point 7 defines it."""
    pairs, names = following(plan, waits, drains), plan_names(plan)
    order = tuple(sorted((a, b) for a, b in pairs if a in names and b in names))
    drained = tuple((c, d) for c in names for d in names if drains_of(pairs, drains, c, d))
    return (order, drained)


def has_round(plan, waits, drains):
    return any(a == b for a, b in following(plan, waits, drains))


def some_plan(chance):
    """Return a plan with random names in random signs; chance is a random.Random."""
    names = chance.sample(range(10), chance.randint(0, 8))
    rows = [[] for _ in range(chance.randint(1, 4))]
    for name in names:
        row = chance.choice([row for row in rows if len(row) < 4] or [[]])
        row.append(name)
    return plan_of(*rows)


def some_pairs(chance, many):
    """Return a strictly ascending tuple of at most this many pairs of different names."""
    pairs = {tuple(chance.sample(range(10), 2)) for _ in range(many)}
    return tuple(sorted(pairs))


def some_regime(chance):
    """Return waits and drains of any kind: with and without rounds."""
    return some_pairs(chance, chance.randint(0, 6)), some_pairs(chance, chance.randint(0, 5))


def some_cases(seed, many):
    """Return as many triples (plan, waits, drains)."""
    chance = random.Random(seed)
    return [(some_plan(chance), *some_regime(chance)) for _ in range(many)]


def is_deeply_tuple(value):
    """Return whether value is built of tuples and integers only."""
    if value.__class__ is tuple:
        return all(is_deeply_tuple(part) for part in value)
    return value.__class__ is int


def is_plain(value):
    """Return whether value is built of tuples, integers and strings only."""
    if value.__class__ is tuple:
        return all(is_plain(part) for part in value)
    return value.__class__ in (int, str)
