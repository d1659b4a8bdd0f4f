"""Holding: where somebody who is inside can keep all that comes next from being carried out, for ever."""

from leavefirst.reached import small_enough, steps_of, walk_to, ways_to_states
from leavefirst.ruled import Ruled, none_above
from leavefirst.walks import is_at_end, still_walk


def is_barred(ruled, versions):
    """Return whether the cut is barred."""
    coming = ruled.coming_next(versions)
    entered = ruled.entry(versions)
    # Only in the last cut nothing can come next.
    return len(coming) > 0 and all([not ruled.all_in(ruled.drained[name], entered) for name in coming])


def all_barred(ruled):
    """Return the ascending list of the barred cuts."""
    return [versions for versions in ruled.all_cuts() if is_barred(ruled, versions)]


def goes_round(plan, versions, place):
    """Return whether a walker at this place never ends while just the versions stand."""
    return still_walk(plan, versions, place) is None


def is_held(ruled, versions, state):
    """Return whether a walker in this state can come to go round, for ever, in the barred cut that it holds up."""
    place, entered, stands = state
    if entered != ruled.entry(versions) or not none_above(stands, versions):
        return False
    return goes_round(ruled.plan, versions, place)


def hold_among(ruled, ways):
    """Return a hold that one of the reached states shows, or None; ways tells how they are reached."""
    for versions in all_barred(ruled):
        for state in ways:
            if is_held(ruled, versions, state):
                return (versions, *walk_to(ways, state))
    return None


def place_inside(ruled, versions, start, sights):
    """Return where a walker comes to by the sights, with changes of the cut alone, once the cut that it enters is done.

    None is returned if there are no such deeds, or if the walker comes to an end.
    """
    entered = ruled.entry(versions)
    state = (start, entered, entered)
    for version in sights:
        found = [following for seen, following in steps_of(ruled, state) if seen == version]
        if not found or not none_above(found[0][2], versions):
            return None
        state = found[0]
    return None if is_at_end(ruled.plan, state[0]) else state[0]


def barred_cuts(plan, waits, drains):
    """Return the ascending tuple of the barred cuts."""
    return tuple(all_barred(Ruled(plan, waits, drains)))


def holder(plan, waits, drains):
    """Return a hold (versions, start, sights) of the regime, or None."""
    ruled = small_enough(plan, waits, drains)
    return hold_among(ruled, ways_to_states(ruled))
