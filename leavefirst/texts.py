"""Texts: plans and regimes as lines."""

from leavefirst.errors import ParseError
from leavefirst.plans import (
    DIGITS, MOST_CHANGES, MOST_CHANGES_IN_A_SIGN, MOST_NODES, MOST_SIGNS, OUTCOMES, is_ascending,
)


def text_of(lines):
    """Return the text of the lines."""
    return "".join([line + "\n" for line in lines])


def sign_lines(sign):
    """Return the lines of a sign."""
    first, changes = sign
    return [f"sign {first}"] + [f"change {name} to {value}" for name, value in changes]


def node_line(node):
    """Return the line of a node."""
    if node[0] == "end":
        return node[1]
    _, sign, branches, other = node
    ways = [f"{value}:{target}" for value, target in branches]
    return " ".join(["read", str(sign)] + ways + ["else", str(other)])


def format_plan(plan):
    """Return the text of a plan."""
    signs, starts, nodes = plan
    lines = [line for sign in signs for line in sign_lines(sign)]
    lines.append(" ".join(["starts"] + [str(start) for start in starts]))
    return text_of(lines + [node_line(node) for node in nodes])


def format_regime(waits, drains):
    """Return the text of waits and drains."""
    return text_of([f"{b} waits for {a}" for a, b in waits] + [f"{b} drains {a}" for a, b in drains])


def number_of(part, limit):
    """Return the number below the limit that the part of a line writes, or None."""
    for number in range(limit):
        if part == str(number):
            return number
    return None


def numbers_of(parts, limit):
    """Return the list of the numbers that the parts write, or None if one writes none."""
    found = [number_of(part, limit) for part in parts]
    return None if None in found else found


def pair_of(part, limit, other_limit):
    """Return the pair of numbers that a part with a colon between them writes, or None."""
    halves = part.split(":")
    if len(halves) != 2:
        return None
    first, second = number_of(halves[0], limit), number_of(halves[1], other_limit)
    return None if first is None or second is None else (first, second)


class PlanLines:
    """The lines of a plan, as far as they were taken."""

    def __init__(self):
        self.signs = []
        self.names = []
        self.starts = None
        self.nodes = []

    def take(self, line):
        """Take the next line; return whether it can be the next one of a plan."""
        parts = line.split(" ")
        if parts[0] == "sign":
            return self.take_sign(parts)
        if parts[0] == "change":
            return self.take_change(parts)
        if parts[0] == "starts":
            return self.take_starts(parts)
        return self.take_node(parts)

    def take_sign(self, parts):
        """Take the parts of the first line of a sign; return whether they can come next."""
        numbers = numbers_of(parts[1:], DIGITS)
        if self.starts is not None or len(self.signs) >= MOST_SIGNS or numbers is None or len(numbers) != 1:
            return False
        self.signs.append((numbers[0], []))
        return True

    def take_change(self, parts):
        """Take the parts of the line of a change; return whether they can come next."""
        if self.starts is not None or not self.signs or len(parts) != 4 or parts[2] != "to":
            return False
        numbers = numbers_of(parts[1::2], DIGITS)
        changes = self.signs[-1][1]
        if numbers is None or numbers[0] in self.names:
            return False
        if len(changes) >= MOST_CHANGES_IN_A_SIGN or len(self.names) >= MOST_CHANGES:
            return False
        self.names.append(numbers[0])
        changes.append(tuple(numbers))
        return True

    def take_starts(self, parts):
        """Take the parts of the line of the starts; return whether they can come next."""
        numbers = numbers_of(parts[1:], MOST_NODES)
        if self.starts is not None or not self.signs or not numbers or not is_ascending(numbers):
            return False
        self.starts = numbers
        return True

    def take_node(self, parts):
        """Take the parts of the line of a node; return whether they can come next."""
        if self.starts is None or len(self.nodes) >= MOST_NODES:
            return False
        node = ("end", parts[0]) if len(parts) == 1 and parts[0] in OUTCOMES else self.read_in(parts)
        if node is None:
            return False
        self.nodes.append(node)
        return True

    def read_in(self, parts):
        """Return the read that the parts write, or None."""
        if len(parts) < 4 or parts[0] != "read" or parts[-2] != "else":
            return None
        sign, other = number_of(parts[1], len(self.signs)), number_of(parts[-1], MOST_NODES)
        branches = [pair_of(part, DIGITS, MOST_NODES) for part in parts[2:-2]]
        if sign is None or other is None or None in branches:
            return None
        if not is_ascending([value for value, _ in branches]):
            return None
        return ("read", sign, tuple(branches), other)

    def named(self):
        """Return the list of the indices of nodes that the starts and the nodes name."""
        found = list(self.starts)
        for node in self.nodes:
            if node[0] == "read":
                found.extend([target for _, target in node[2]] + [node[3]])
        return found

    def is_whole_plan(self):
        """Return whether the lines that were taken are those of a plan."""
        return len(self.nodes) > 0 and max(self.named()) < len(self.nodes)

    def plan(self):
        """Return the plan that the lines write."""
        signs = tuple([(first, tuple(changes)) for first, changes in self.signs])
        return (signs, tuple(self.starts), tuple(self.nodes))


class RegimeLines:
    """The lines of waits and drains, as far as they were taken."""

    def __init__(self):
        self.waits = []
        self.drains = []

    def take(self, line):
        """Take the next line; return whether it can be the next one of a regime."""
        parts = line.split(" ")
        if len(parts) == 4 and parts[1] == "waits" and parts[2] == "for" and not self.drains:
            return self.take_pair(self.waits, parts)
        if len(parts) == 3 and parts[1] == "drains":
            return self.take_pair(self.drains, parts)
        return False

    def take_pair(self, pairs, parts):
        """Take the pair that the outer parts write; return whether it can be the next one of the pairs."""
        a, b = number_of(parts[-1], DIGITS), number_of(parts[0], DIGITS)
        if a is None or b is None or a == b or pairs and not pairs[-1] < (a, b):
            return False
        pairs.append((a, b))
        return True


def take_all(reader, text):
    """Let the reader take all lines of a text; raise ParseError for the first one that cannot come next."""
    lines = text.split("\n")
    for at, line in enumerate(lines[:-1]):
        if not reader.take(line):
            raise ParseError(at)
    # What stands behind the last line end is no line.
    if lines[-1] != "":
        raise ParseError(len(lines) - 1)


def parse_plan(text):
    """Return the plan that a text writes; raise ParseError."""
    reader = PlanLines()
    take_all(reader, text)
    if not reader.is_whole_plan():
        raise ParseError(text.count("\n"))
    return reader.plan()


def parse_regime(text):
    """Return the pair (waits, drains) that a text writes; raise ParseError."""
    reader = RegimeLines()
    take_all(reader, text)
    return (tuple(reader.waits), tuple(reader.drains))
