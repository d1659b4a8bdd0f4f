"""Passages done naively: all answers are found by replaying the history, as points 7, 10 and 20 tell."""

from tests.helper import closed_of, plan_names
from tests.naive import next_node, versions_of


class Replay:
    """A passage that keeps nothing but its plan, its regime, its history and the starts of its walkers."""

    def __init__(self, plan, waits=(), drains=(), events=(), starts=()):
        self.plan, self.waits, self.drains = plan, waits, drains
        self.events, self.starts = list(events), list(starts)

    def done_at(self, moment):
        """Return the list of the names that are carried out before this moment of the history."""
        return [name for kind, name in self.events[:moment] if kind == "change"]

    def stands_at(self, moment):
        done = self.done_at(moment)
        return tuple(sum(name in done for name, _ in changes) for _, changes in self.plan[0])

    def now(self):
        return len(self.events)

    def entered_moment(self, walker):
        return self.events.index(("enter", walker))

    def way_of(self, walker, moment):
        """Return (sights, node) of a walker at this moment."""
        node, sights = self.starts[walker], []
        for k, event in enumerate(self.events[:moment]):
            if event == ("look", walker):
                sign = self.plan[2][node][1]
                sights.append(self.stands_at(k)[sign])
                node = next_node(self.plan, node, versions_of(self.plan, sign)[sights[-1]])
        return tuple(sights), node

    def is_inside(self, walker, moment):
        return (self.entered_moment(walker) < moment
                and self.plan[2][self.way_of(walker, moment)[1]][0] == "read")

    def is_behind(self, walker, name):
        """Return whether the walker entered when the change was carried out."""
        return name in self.done_at(self.entered_moment(walker))

    def holding(self, name, regime=None, moment=None):
        """Return the ascending tuple of the walkers who hold a name up, by a regime, at a moment."""
        _, drained = closed_of(self.plan, *(regime or (self.waits, self.drains)))
        moment = self.now() if moment is None else moment
        return tuple(walker for walker in range(len(self.starts))
                     if self.is_inside(walker, moment)
                     and any(b == name and not self.is_behind(walker, a) for a, b in drained))

    def refused(self, name):
        """Return what carry_out should raise, as a tuple of a word and what the error keeps, or None."""
        if name.__class__ is not int or name not in plan_names(self.plan):
            return ("UnknownName", name)
        done = self.done_at(self.now())
        order, _ = closed_of(self.plan, self.waits, self.drains)
        waiting = sorted(a for a, b in order if b == name and a not in done)
        if name in done:
            return ("Done", name)
        if waiting:
            return ("Waiting", name, waiting[0])
        return ("Inside", name, self.holding(name)[0]) if self.holding(name) else None

    def ready(self):
        return tuple(name for name in plan_names(self.plan) if self.refused(name) is None)

    def disobeyed(self, waits, drains):
        """Return what change_regime should raise, rounds aside, or None."""
        order, _ = closed_of(self.plan, waits, drains)
        done = [(k, name) for k, (kind, name) in enumerate(self.events) if kind == "change"]
        for k, name in done:
            if any(b == name and a not in self.done_at(k) for a, b in order):
                return ("TooLate", name)
        for k, name in done:
            if self.holding(name, (waits, drains), k):
                return ("Crossed", name)
        return None

    def fork(self):
        return Replay(self.plan, self.waits, self.drains, self.events, self.starts)
