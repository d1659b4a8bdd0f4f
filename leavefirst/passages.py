"""Passages: many walkers, and helpers who carry out changes under a regime that may be replaced."""

from leavefirst.errors import (
    Crossed, Done, Ended, Inside, LimitExceeded, TooLate, UnknownName, UnknownStart, UnknownWalker, Waiting,
)
from leavefirst.plans import is_below, is_start, is_whole
from leavefirst.ruled import Ruled
from leavefirst.walks import is_at_end, place_behind, read_of

MOST_WALKERS = 100


class Walker:
    """A walker of a passage.

    entered are the versions that stood when it entered, since is how many changes were done then, and until how many
    were done when it came to an end, or None as long as it is inside.
    """

    def __init__(self, start, entered, since):
        self.start = start
        self.sights = []
        self.place = start
        self.entered = entered
        self.since = since
        self.until = None

    def is_inside(self):
        """Return whether the walker is inside."""
        return self.until is None

    def was_inside(self, many):
        """Return whether the walker was inside when the change with this index in the log was carried out."""
        return self.since <= many and (self.until is None or many < self.until)

    def twin(self):
        """Return another walker who has come as far."""
        other = Walker(self.start, self.entered, self.since)
        other.sights = list(self.sights)
        other.place = self.place
        other.until = self.until
        return other


class Passage:
    """A passage: what stands, who is where, and what has been done, under a regime."""

    def __init__(self, plan, waits=(), drains=()):
        self.ruled = Ruled(plan, waits, drains)
        self.told = (waits, drains)
        self.stands = self.ruled.nothing()
        self.done = []
        self.events = []
        self.walkers = []

    def __len__(self):
        return len(self.walkers)

    def walker_of(self, walker):
        """Return the walker with this number, whatever value is told."""
        if not is_below(walker, len(self.walkers)):
            raise UnknownWalker(walker)
        return self.walkers[walker]

    def require_name(self, name):
        """Raise UnknownName if the value is not the name of a change."""
        if not is_whole(name) or name not in self.ruled.places:
            raise UnknownName(name)

    def note_end(self, walker):
        """Note that the walker is not inside any more, if it is at an end."""
        if is_at_end(self.ruled.plan, walker.place):
            walker.until = len(self.done)

    def enter(self, start):
        """Let a new walker enter at the start; return its number."""
        if not is_start(self.ruled.plan, start):
            raise UnknownStart(start)
        if len(self.walkers) >= MOST_WALKERS:
            raise LimitExceeded(MOST_WALKERS)
        number = len(self.walkers)
        walker = Walker(start, self.stands, len(self.done))
        self.note_end(walker)
        self.walkers.append(walker)
        self.events.append(("enter", number))
        return number

    def look(self, walker):
        """Let the walker read and go on; return the version that it sees."""
        one = self.walker_of(walker)
        if not one.is_inside():
            raise Ended(walker)
        read = read_of(self.ruled.plan, one.place, self.stands)
        version = read[2]
        one.sights.append(version)
        one.place = place_behind(self.ruled.plan, read)
        self.note_end(one)
        self.events.append(("look", walker))
        return version

    def walker_at(self, walker):
        """Return (start, sights, node) of the walker."""
        one = self.walker_of(walker)
        return (one.start, tuple(one.sights), one.place)

    def entered_at(self, walker):
        """Return the versions that stood when the walker entered."""
        return self.walker_of(walker).entered

    def holding(self, name):
        """Return the ascending tuple of the walkers inside who hold the change up."""
        self.require_name(name)
        drained = self.ruled.drained[name]
        found = [number for number, walker in enumerate(self.walkers)
                 if walker.is_inside() and not self.ruled.all_in(drained, walker.entered)]
        return tuple(found)

    def carry_out(self, name):
        """Carry out the change of this name."""
        self.require_name(name)
        if self.ruled.is_in(name, self.stands):
            raise Done(name)
        waiting = [other for other in self.ruled.ahead[name] if not self.ruled.is_in(other, self.stands)]
        if waiting:
            raise Waiting(name, min(waiting))
        inside = self.holding(name)
        if inside:
            raise Inside(name, inside[0])
        self.stands = self.ruled.with_change(name, self.stands)
        self.done.append(name)
        self.events.append(("change", name))

    def ready(self):
        """Return the ascending tuple of the names that can be carried out now."""
        coming = self.ruled.coming_next(self.stands)
        return tuple(sorted([name for name in coming if not self.holding(name)]))

    def too_late(self, ruled):
        """Return the first name of the log that came before one that is before it in the order, or None."""
        for many, name in enumerate(self.done):
            before = self.done[:many]
            if not all([other in before for other in ruled.ahead[name]]):
                return name
        return None

    def crossed(self, ruled):
        """Return the first name of the log that came while somebody was inside whom it drains, or None."""
        for many, name in enumerate(self.done):
            entered = [walker.entered for walker in self.walkers if walker.was_inside(many)]
            if not all([ruled.all_in(ruled.drained[name], versions) for versions in entered]):
                return name
        return None

    def change_regime(self, waits, drains):
        """Replace the regime by one that the history obeys."""
        ruled = Ruled(self.ruled.plan, waits, drains)
        late = self.too_late(ruled)
        if late is not None:
            raise TooLate(late)
        name = self.crossed(ruled)
        if name is not None:
            raise Crossed(name)
        self.ruled = ruled
        self.told = (waits, drains)

    def regime(self):
        """Return (waits, drains) as they were passed last."""
        return self.told

    def versions(self):
        """Return the versions that stand."""
        return self.stands

    def log(self):
        """Return the tuple of the names of the changes that are done, in the order in which they came."""
        return tuple(self.done)

    def history(self):
        """Return the tuple of all changes, enterings and looks in order."""
        return tuple(self.events)

    def fork(self):
        """Return another passage that has come as far and goes its own way."""
        waits, drains = self.told
        other = Passage(self.ruled.plan, waits, drains)
        other.stands = self.stands
        other.done = list(self.done)
        other.events = list(self.events)
        other.walkers = [walker.twin() for walker in self.walkers]
        return other
