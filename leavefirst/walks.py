"""Walks: which nodes a walker comes to by what it sees."""

from leavefirst.plans import beginning, ending


def values_of(plan, sign):
    """Return the list of the values of a sign's versions."""
    first, changes = plan[0][sign]
    return [first] + [value for _, value in changes]


def is_at_end(plan, place):
    """Return whether the node with this index is an end."""
    return plan[2][place][0] == "end"


def read_at(plan, place, version):
    """Return (node, sign, version, value) for the read at this place, or None if its sign has no such version."""
    sign = plan[2][place][1]
    values = values_of(plan, sign)
    return (place, sign, version, values[version]) if 0 <= version < len(values) else None


def read_of(plan, place, versions):
    """Return (node, sign, version, value) for the read at this place while the versions stand."""
    return read_at(plan, place, versions[plan[2][place][1]])


def place_behind(plan, read):
    """Return the index of the node to which a read leads."""
    place, _, _, value = read
    _, _, branches, other = plan[2][place]
    for branch, target in branches:
        if branch == value:
            return target
    return other


def walk(plan, node, sights):
    """Return the reads, each a tuple (node, sign, version, value), and the end of the walk."""
    reads = []
    place = node
    for version in sights:
        if is_at_end(plan, place):
            break
        read = read_at(plan, place, version)
        if read is None:
            return (tuple(reads), ("astray", place))
        reads.append(read)
        place = place_behind(plan, read)
    return (tuple(reads), plan[2][place] if is_at_end(plan, place) else ("open", place))


def still_walk(plan, versions, node):
    """Return (reads, outcome) of a walker at the node while the versions stand, or None if it never ends."""
    place = node
    # Whoever has read as often as there are nodes has come to one of them twice, and goes round for ever.
    for reads in range(len(plan[2])):
        if is_at_end(plan, place):
            return (reads, plan[2][place][1])
        place = place_behind(plan, read_of(plan, place, versions))
    return None


def bounds_of(plan, reads):
    """Return the list of the names of the changes that begin and end what each read sees, None for no change."""
    return [(beginning(plan, sign, version), ending(plan, sign, version)) for _, sign, version, _ in reads]
