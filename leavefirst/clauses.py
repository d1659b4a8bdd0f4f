"""The two clauses of a walk: the waits and the drains that keep it from being passable."""

from leavefirst.errors import AstrayWalk, Backward
from leavefirst.plans import all_places
from leavefirst.walks import bounds_of, walk


def first_older(reads):
    """Return the number of the first read that sees an older version of its sign than an earlier one, or None."""
    seen = {}
    for at, (_, sign, version, _) in enumerate(reads):
        if version < seen.get(sign, version):
            return at
        seen[sign] = version
    return None


def pairs_across(earlier, later):
    """Return all pairs of a name of the one list and a name further behind in the other; None stands for no name."""
    before, found = {}, {}
    for one, other in zip(earlier, later):
        if other is not None:
            for name in before:
                found[(name, other)] = True
        if one is not None:
            before[one] = True
    return list(found)


def two_clauses(plan, node, sights):
    """Return the pair (waits, drains) of the walk; raise AstrayWalk or Backward with the number of the read."""
    reads, end = walk(plan, node, sights)
    if end[0] == "astray":
        raise AstrayWalk(len(reads))
    older = first_older(reads)
    if older is not None:
        raise Backward(older)
    places = all_places(plan)
    bounds = bounds_of(plan, reads)
    begun = [begins for begins, _ in bounds]
    ended = [ends for _, ends in bounds]
    waits = [(a, b) for b, a in pairs_across(begun, ended) if places[a][0] != places[b][0]]
    drains = [(a, b) for a, b in pairs_across(ended, begun) if places[a][0] != places[b][0] or places[a] < places[b]]
    return (tuple(sorted(waits)), tuple(sorted(drains)))
