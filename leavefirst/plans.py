"""Plans: signs with their changes, the starts and the nodes."""

from leavefirst.errors import InvalidPlan, UnknownName

MOST_SIGNS = 4
MOST_CHANGES_IN_A_SIGN = 4
MOST_CHANGES = 8
MOST_NODES = 12
# Names and values are the digits from 0 to 9.
DIGITS = 10
OUTCOMES = ("good", "misled")


def is_whole(value):
    """Return whether value is an integer: True and False are none."""
    return isinstance(value, int) and not isinstance(value, bool)


def is_below(value, limit):
    """Return whether value is an integer from 0 on that is below the limit."""
    return is_whole(value) and 0 <= value < limit


def is_row(value, length):
    """Return whether value is a tuple of this length."""
    return isinstance(value, tuple) and len(value) == length


def is_pair(value, first_limit, second_limit):
    """Return whether value is a pair of integers from 0 on, each below its limit."""
    return is_row(value, 2) and is_below(value[0], first_limit) and is_below(value[1], second_limit)


def is_ascending(values):
    """Return whether the values ascend strictly."""
    return all([low < high for low, high in zip(values, values[1:])])


def has_frame(value):
    """Return whether value is a triple of tuples with as many signs, starts and nodes as a plan has."""
    if not is_row(value, 3) or not all([isinstance(part, tuple) for part in value]):
        return False
    signs, starts, nodes = value
    return 1 <= len(signs) <= MOST_SIGNS and len(starts) >= 1 and 1 <= len(nodes) <= MOST_NODES


def is_sign(value):
    """Return whether value is a sign, taken alone and leaving aside whether its names differ."""
    if not is_row(value, 2):
        return False
    first, changes = value
    if not is_below(first, DIGITS) or not isinstance(changes, tuple) or len(changes) > MOST_CHANGES_IN_A_SIGN:
        return False
    return all([is_pair(change, DIGITS, DIGITS) for change in changes])


def wrong_sign(signs):
    """Return the index of the first sign that is none, also by a name that came before, or None."""
    taken = []
    for k, sign in enumerate(signs):
        if not is_sign(sign):
            return k
        for name, _ in sign[1]:
            if name in taken:
                return k
            taken.append(name)
    return None


def are_starts(value, many):
    """Return whether the tuple is one of starts, where there are this many nodes."""
    return all([is_below(start, many) for start in value]) and is_ascending(value)


def are_branches(value, many):
    """Return whether value is a tuple of branches, where there are this many nodes."""
    if not isinstance(value, tuple) or not all([is_pair(branch, DIGITS, many) for branch in value]):
        return False
    return is_ascending([branch[0] for branch in value])


def is_read(value, signs, nodes):
    """Return whether value is a read of one of the signs that leads to some of the nodes."""
    if not is_row(value, 4) or value[0] != "read":
        return False
    _, sign, branches, other = value
    return is_below(sign, len(signs)) and are_branches(branches, len(nodes)) and is_below(other, len(nodes))


def is_end(value):
    """Return whether value is an end."""
    return is_row(value, 2) and value[0] == "end" and value[1] in OUTCOMES


def require_plan(value):
    """Return value if it is a plan; raise InvalidPlan with the first part that is wrong."""
    if not has_frame(value):
        raise InvalidPlan(None)
    signs, starts, nodes = value
    k = wrong_sign(signs)
    if k is not None:
        raise InvalidPlan(("sign", k))
    if len(names_of(value)) > MOST_CHANGES:
        raise InvalidPlan(None)
    if not are_starts(starts, len(nodes)):
        raise InvalidPlan(("starts",))
    for k, node in enumerate(nodes):
        if not is_read(node, signs, nodes) and not is_end(node):
            raise InvalidPlan(("node", k))
    return value


def is_start(plan, value):
    """Return whether value is a start of the plan."""
    return is_whole(value) and value in plan[1]


def all_places(plan):
    """Return a dict that gives each name of the plan its place, (sign, version)."""
    found = {}
    for sign, (_, changes) in enumerate(plan[0]):
        for version, (name, _) in enumerate(changes, start=1):
            found[name] = (sign, version)
    return found


def names_of(plan):
    """Return the ascending tuple of the names of the changes."""
    return tuple(sorted(all_places(plan)))


def place_of(plan, name):
    """Return (sign, version), the version that the change of this name begins."""
    if not is_whole(name):
        raise UnknownName(name)
    found = all_places(plan)
    if name not in found:
        raise UnknownName(name)
    return found[name]


def beginning(plan, sign, version):
    """Return the name of the change that begins this version of the sign, or None."""
    changes = plan[0][sign][1]
    return changes[version - 1][0] if 1 <= version <= len(changes) else None


def ending(plan, sign, version):
    """Return the name of the change that ends this version of the sign, or None."""
    return beginning(plan, sign, version + 1)
