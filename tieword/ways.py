"""The ways in which a small web lies in a great one."""

from tieword.errors import TooMany
from tieword.groups import all_turnings
from tieword.turnings import MOST_TOLD, both


def stands_in(pairs, more):
    return all([more.count(pair) >= pairs.count(pair) for pair in pairs])


# Whether the last place of a way that has been begun fits those ahead of it.
def last_fits(small, great, way):
    at = len(way) - 1
    last = way[at]
    if last in way[:at] or great.kinds[last] != small.kinds[at]:
        return False
    return all([stands_in(small.between(k, at), great.between(way[k], last)) for k in range(at)])


def is_way(small, great, way):
    # Looked at first, since a place below 0 would be taken for one counted from the end.
    if len(way) != small.size() or not all([0 <= place < great.size() for place in way]):
        return False
    return all([last_fits(small, great, way[:many]) for many in range(1, len(way) + 1)])


# Puts to found, in rising order, the ways that begin so; no more once there are most of them.
def go_on(small, great, begun, found, most):
    if len(begun) == small.size():
        found.append(begun)
        return
    for place in range(great.size()):
        longer = begun + [place]
        if len(found) < most and last_fits(small, great, longer):
            go_on(small, great, longer, found, most)


def first_ways(small, great, most):
    found = []
    go_on(small, great, [], found, most)
    return found


def all_ways(small, great):
    ways = first_ways(small, great, MOST_TOLD + 1)
    if len(ways) > MOST_TOLD:
        raise TooMany("the small web lies in the great one in more than 720 ways")
    return ways


def lies_in(small, great):
    return len(first_ways(small, great, 1)) > 0


# Of rising ways, the first one that no turning has led to is the least of all that come of it.
def least_ways(ways, turnings):
    least = []
    come = {}
    for way in ways:
        if tuple(way) not in come:
            least.append(way)
            for turning in turnings:
                come[tuple(both(turning, way))] = True
    return least


def spots(small, great):
    return least_ways(all_ways(small, great), all_turnings(small))
