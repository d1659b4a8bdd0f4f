"""Entering: the cuts of a regime, what one walker and the helpers can do, and which walks are passable."""

from leavefirst.errors import AstrayWalk, Stuck
from leavefirst.ruled import Ruled, joined
from leavefirst.walks import bounds_of, is_at_end, place_behind, read_of, walk


class Run:
    """What stands, and where the one walker is, while deeds are carried out."""

    def __init__(self, ruled, node):
        self.ruled = ruled
        self.node = node
        self.sights = []
        self.versions = ruled.nothing()
        self.place = None
        self.entered = None

    def is_inside(self):
        """Return whether the walker is inside."""
        return self.place is not None and not is_at_end(self.ruled.plan, self.place)

    def can_change(self, name):
        """Return whether the change of this name can be carried out."""
        ruled = self.ruled
        if name not in ruled.places or not ruled.can_come_next(name, self.versions):
            return False
        return not self.is_inside() or ruled.all_in(ruled.drained[name], self.entered)

    def can_carry_out(self, deed):
        """Return whether the deed can be carried out."""
        if deed[0] == "change":
            return self.can_change(deed[1])
        return self.is_inside() if deed[0] == "look" else self.place is None

    def look(self):
        """Let the walker read and go on."""
        plan = self.ruled.plan
        read = read_of(plan, self.place, self.versions)
        self.sights.append(read[2])
        self.place = place_behind(plan, read)

    def carry_out(self, deed):
        """Carry out a deed that can be carried out."""
        if deed[0] == "change":
            self.versions = self.ruled.with_change(deed[1], self.versions)
        elif deed[0] == "look":
            self.look()
        else:
            self.place = self.node
            self.entered = self.versions


def first_wait(ruled, bounds):
    """Return ("wait", k, l) for the least read l that sees what a change for an earlier read k has ended, or None."""
    begun = {}
    for at, (begins, ends) in enumerate(bounds):
        if ends is not None:
            found = [begun[name] for name in begun if ruled.same_or_ahead(ends, name)]
            if found:
                return ("wait", min(found), at)
        if begins is not None:
            begun.setdefault(begins, at)
    return None


def first_drain(ruled, bounds):
    """Return ("drain", i, j) for the least read j that drains the end of what some read i sees, or None."""
    first = {}
    for at, (_, ends) in enumerate(bounds):
        first.setdefault(ends, at)
    for at, (begins, _) in enumerate(bounds):
        found = [first[name] for name in ruled.drained.get(begins, []) if name in first]
        if found:
            return ("drain", min(found), at)
    return None


def what_hinders(ruled, reads):
    """Return None if a walk of these reads is passable, else what hinders it."""
    bounds = bounds_of(ruled.plan, reads)
    found = first_wait(ruled, bounds)
    return first_drain(ruled, bounds) if found is None else found


def change_deeds(ruled, low, high):
    """Return the deeds that carry out the changes of the cut high that are not in low, in an order that they can."""
    return [("change", name) for name in ruled.names_in(high) if not ruled.is_in(name, low)]


def deeds_of(ruled, reads):
    """Return the deeds for the reads of a passable walk, each change as late as it may be."""
    needed = [ruled.cut_with(sign, version) for _, sign, version, _ in reads]
    last = ruled.nothing()
    for cut in needed:
        last = joined(last, cut)
    done = ruled.entry(last)
    deeds = [*change_deeds(ruled, ruled.nothing(), done), ("enter",)]
    for cut in needed:
        deeds.extend([*change_deeds(ruled, done, cut), ("look",)])
        done = joined(done, cut)
    return deeds


def needs(plan, waits, drains, sign, version):
    """Return the least cut with this version of the sign."""
    return Ruled(plan, waits, drains).cut_with(sign, version)


def cuts(plan, waits, drains):
    """Return the ascending tuple of all cuts."""
    return tuple(Ruled(plan, waits, drains).all_cuts())


def entered_by(plan, waits, drains, versions):
    """Return the cut that the cut versions enters."""
    return Ruled(plan, waits, drains).entry(versions)


def carry(plan, waits, drains, node, deeds):
    """Carry out the deeds with a walker that enters at the node; return (sights, versions, place, entered)."""
    run = Run(Ruled(plan, waits, drains), node)
    for k, deed in enumerate(deeds):
        if not run.can_carry_out(deed):
            raise Stuck(k)
        run.carry_out(deed)
    return (tuple(run.sights), run.versions, run.place, run.entered)


def is_passable(plan, waits, drains, node, sights):
    """Return whether the walk is passable: one that goes astray is not."""
    ruled = Ruled(plan, waits, drains)
    reads, end = walk(plan, node, sights)
    return end[0] != "astray" and what_hinders(ruled, reads) is None


def deeds_for(plan, waits, drains, node, sights):
    """Return deeds by which a walker sees just what the walk uses, or None if it is not passable."""
    ruled = Ruled(plan, waits, drains)
    reads, end = walk(plan, node, sights)
    if end[0] == "astray" or what_hinders(ruled, reads) is not None:
        return None
    return tuple(deeds_of(ruled, reads))


def hindrance(plan, waits, drains, node, sights):
    """Return None if the walk is passable, else the two reads that hinder it; raise AstrayWalk if it goes astray."""
    ruled = Ruled(plan, waits, drains)
    reads, end = walk(plan, node, sights)
    if end[0] == "astray":
        raise AstrayWalk(len(reads))
    return what_hinders(ruled, reads)
