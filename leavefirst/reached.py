"""States: what walkers can come to while changes are carried out, and whether some are misled."""

from leavefirst.errors import TooMany
from leavefirst.ruled import Ruled, joined, none_above
from leavefirst.walks import is_at_end, place_behind, read_at, values_of

# Plans with more changes have too many states.
MOST_CHANGES_FOR_STATES = 5


def steps_of(ruled, state):
    """Return the list of pairs (version, state) of what is read in a state and the state to which this leads."""
    plan = ruled.plan
    place, entered, versions = state
    if is_at_end(plan, place):
        return []
    sign = plan[2][place][1]
    found = []
    for version in range(versions[sign], len(values_of(plan, sign))):
        higher = joined(versions, ruled.cut_with(sign, version))
        if none_above(ruled.entry(higher), entered):
            found.append((version, (place_behind(plan, read_at(plan, place, version)), entered, higher)))
    return found


def start_states(ruled):
    """Return the list of the start states."""
    return [(start, cut, cut) for start in ruled.plan[1] for cut in ruled.all_cuts()]


def ways_to_states(ruled):
    """Return a dict that gives each reached state the last step to it, (state before, version), or None.

    The states stand in it by the number of steps to them, those with the fewest first.
    """
    found = {state: None for state in start_states(ruled)}
    todo = list(found)
    while todo:
        later = []
        for state in todo:
            for version, following in steps_of(ruled, state):
                if following not in found:
                    found[following] = (state, version)
                    later.append(following)
        todo = later
    return found


def small_enough(plan, waits, drains):
    """Return the plan under the regime; raise TooMany if it has too many changes."""
    ruled = Ruled(plan, waits, drains)
    if len(ruled.places) > MOST_CHANGES_FOR_STATES:
        raise TooMany(MOST_CHANGES_FOR_STATES)
    return ruled


def is_misled(plan, state):
    """Return whether the state is at a misled end."""
    return plan[2][state[0]] == ("end", "misled")


def walk_to(ways, state):
    """Return (start, sights) of a walk by which the state is reached."""
    sights = []
    here = state
    while ways[here] is not None:
        here, version = ways[here]
        sights.append(version)
    return (here[0], tuple(sights[::-1]))


def misled_walk(plan, ways):
    """Return (start, sights) of a shortest misled walk to one of the reached states, or None."""
    for state in ways:
        if is_misled(plan, state):
            return walk_to(ways, state)
    return None


def leads(plan, waits, drains, state):
    """Return the ascending tuple of the states to which a state leads."""
    return tuple(sorted([following for _, following in steps_of(Ruled(plan, waits, drains), state)]))


def reached_states(plan, waits, drains):
    """Return the ascending tuple of the reached states."""
    return tuple(sorted(ways_to_states(small_enough(plan, waits, drains))))


def is_calm(plan, waits, drains):
    """Return whether no walker can be misled."""
    return bewildering(plan, waits, drains) is None


def bewildering(plan, waits, drains):
    """Return (start, sights) of a misled walk that is passable, one of the shortest, or None."""
    return misled_walk(plan, ways_to_states(small_enough(plan, waits, drains)))
