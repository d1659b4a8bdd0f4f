"""A plan under a regime: what is ahead of its changes, what they drain, and its cuts."""

from leavefirst.plans import all_places, beginning
from leavefirst.regimes import drained_pairs, untangled


def joined(some, others):
    """Return the versions of the first tuple, raised sign by sign to those of the second."""
    return tuple([max(one, other) for one, other in zip(some, others)])


def none_above(some, others):
    """Return whether no version of the first tuple is greater than that of the second."""
    return all([one <= other for one, other in zip(some, others)])


class Ruled:
    """A plan under a regime; Tangled is raised if the regime has a round in it."""

    def __init__(self, plan, waits, drains):
        behind = untangled(plan, waits, drains)
        self.plan = plan
        self.places = all_places(plan)
        self.ahead = {name: [other for other in self.places if name in behind[other]] for name in self.places}
        self.drained = {name: [] for name in self.places}
        for before, after in drained_pairs(list(self.places), drains, behind):
            self.drained[after].append(before)
        self.least = {name: self.cut_up_to(name) for name in self.places}
        # What the cuts enter, kept as it is asked for: the states of a plan ask for the same cuts often.
        self.entries = {}

    def nothing(self):
        """Return the cut without changes."""
        return (0,) * len(self.plan[0])

    def cut_up_to(self, name):
        """Return the cut of the change of this name and all before it."""
        versions = list(self.nothing())
        for change in [name, *self.ahead[name]]:
            sign, version = self.places[change]
            versions[sign] = max(versions[sign], version)
        return tuple(versions)

    def least_cut(self, names):
        """Return the least cut that has the changes of these names."""
        versions = self.nothing()
        for name in names:
            versions = joined(versions, self.least[name])
        return versions

    def cut_with(self, sign, version):
        """Return the least cut with this version of the sign."""
        name = beginning(self.plan, sign, version)
        return self.nothing() if name is None else self.least[name]

    def same_or_ahead(self, name, other):
        """Return whether both names are the same or the first is before the second in the order."""
        return name == other or name in self.ahead[other]

    def is_in(self, name, versions):
        """Return whether the change of this name is in the versions."""
        sign, version = self.places[name]
        return versions[sign] >= version

    def all_in(self, names, versions):
        """Return whether the changes of all these names are in the versions."""
        return all([self.is_in(name, versions) for name in names])

    def can_come_next(self, name, versions):
        """Return whether the change of this name is not in the versions and all before it in the order are."""
        return not self.is_in(name, versions) and self.all_in(self.ahead[name], versions)

    def coming_next(self, versions):
        """Return the list of the names of the changes that can come next in the cut."""
        return [name for name in self.places if self.can_come_next(name, versions)]

    def names_in(self, versions):
        """Return the names of the changes in the versions, each behind those that are before it in the order."""
        found = [name for name in self.places if self.is_in(name, versions)]
        return sorted(found, key=lambda name: len(self.ahead[name]))

    def with_change(self, name, versions):
        """Return what stands when the change of this name is carried out while the versions stand."""
        sign, version = self.places[name]
        return (*versions[:sign], version, *versions[sign + 1:])

    def entry(self, versions):
        """Return the cut that this cut enters."""
        if versions not in self.entries:
            drained = [before for name in self.names_in(versions) for before in self.drained[name]]
            self.entries[versions] = self.least_cut(drained)
        return self.entries[versions]

    def is_cut(self, versions):
        """Return whether the versions have all that is before what they have."""
        return all([self.all_in(self.ahead[name], versions) for name in self.names_in(versions)])

    def all_cuts(self):
        """Return the ascending list of all cuts."""
        rows = [()]
        for _, changes in self.plan[0]:
            rows = [(*row, version) for row in rows for version in range(len(changes) + 1)]
        return [row for row in rows if self.is_cut(row)]


def ruled_by(plan, regime):
    """Return the plan under a closed regime."""
    order, drained = regime
    return Ruled(plan, order, drained)
