"""Certificates that are made wrong: by changing a part of them, or by putting together what does not fit."""

from leavefirst.holding import barred_cuts, holder
from leavefirst.reached import bewildering, reached_states
from tests.naive import all_cuts
from tests.plain import all_closed

WORDS = ("shown", "broken", "calm", "ends", "asks", "worth", "lost", "less", "more", "", None, 0)


def paths_of(value, path=()):
    """Return the list of the paths to all tuples and to what is in them."""
    found = [path]
    if value.__class__ is tuple:
        for k, part in enumerate(value):
            found += paths_of(part, (*path, k))
    return found


def part_at(value, path):
    for k in path:
        value = value[k]
    return value


def with_part(value, path, part):
    """Return the value with another part at the path."""
    if not path:
        return part
    k = path[0]
    return (*value[:k], with_part(value[k], path[1:], part), *value[k + 1:])


def changed_part(chance, part):
    """Return another value in the place of this one."""
    if part.__class__ is int:
        return chance.choice((part + 1, part - 1, part + chance.randint(2, 4), part == 1, str(part), None, (part,)))
    if part.__class__ is str:
        return chance.choice(WORDS)
    if part.__class__ is not tuple or not part:
        return chance.choice(([], (0,), None, ((),), 0))
    k, j = chance.randrange(len(part)), chance.randrange(len(part))
    swapped = list(part)
    swapped[k], swapped[j] = swapped[j], swapped[k]
    without = part[:k] + part[k + 1:]
    return chance.choice((without, without, without, part[:k] + part[k:k + 1] + part[k:], tuple(swapped), list(part),
                          part + ((),), part[:k], (*without, part[j])))


def changed(chance, value):
    """Return the value with one part that is changed, more often one that is not deep in it."""
    paths = paths_of(value)
    if chance.random() < 0.6:
        paths = [path for path in paths if len(path) <= 3 and part_at(value, path).__class__ is tuple] or paths
    path = chance.choice(paths)
    return with_part(value, path, changed_part(chance, part_at(value, path)))


def some_table(chance, plan, regime):
    """Return the reached states of a regime, sometimes with some left out."""
    table = reached_states(plan, *regime)
    if chance.random() < 0.5:
        return table
    return tuple(state for state in table if chance.random() < 0.95)


def some_told(chance, plan, regime):
    """Return a walk or a hold for a regime: a right one if there is one and chance likes it."""
    told = bewildering(plan, *regime) or holder(plan, *regime)
    if told is not None and chance.random() < 0.8:
        return told
    start, sights = chance.choice(plan[1]), tuple(chance.randint(0, 2) for _ in range(chance.randint(0, 4)))
    if chance.random() < 0.4:
        return (start, sights)
    cuts = barred_cuts(plan, *regime) or all_cuts(plan, *regime)
    return (chance.choice(cuts), start, sights)


def some_entries(chance, plan):
    """Return entries for some of the closed regimes."""
    rate = chance.choice((0.3, 0.8, 1, 1))
    return tuple((regime, *some_told(chance, plan, regime)) for regime in all_closed(plan)
                 if chance.random() < rate)


def some_mixed_certificate(chance, plan):
    """Return a certificate of the forms whose parts are drawn, so that it is seldom right."""
    regime, other = chance.choice(all_closed(plan)), chance.choice(all_closed(plan))
    kind = chance.randrange(9)
    table = some_table(chance, plan, regime)
    if kind < 2:
        return ("shown", (("calm", "ends")[kind], *regime), table)
    if kind == 2:
        return ("broken", ("calm", *regime), (some_told(chance, plan, regime) + ((),))[:2])
    if kind == 3:
        return ("broken", ("ends", *regime), some_told(chance, plan, regime))
    if kind == 4:
        return ("shown", ("asks", other[0][:2], other[1][:1]), some_entries(chance, plan))
    if kind == 5:
        return ("broken", ("asks", other[0][:1], other[1][:1]), (regime, table))
    if kind == 6:
        entries = some_entries(chance, plan)
        return chance.choice((("broken", ("worth", chance.randint(0, 5)), ("more", entries)),
                              ("shown", ("worth", chance.randint(0, 5)), (regime, table, entries)),
                              ("shown", ("lost",), entries)))
    if kind == 7:
        return ("broken", ("lost",), (regime, table))
    return ("broken", ("worth", chance.randint(0, 6)), ("less", regime, table))
