"""Webs: places, each of a kind, and ties between two of them."""

from tieword.errors import BadOrder, BadPlace, BadTie, TooGreat
from tieword.reach import reached

MOST_PLACES = 7
MOST_TIES = 12
MOST_LETTERS = 3


def is_place_kind(kind):
    # Compared by hand, since islower and its like take letters beyond a to z too.
    letters_fit = all(["a" <= letter <= "z" for letter in kind])
    return letters_fit and 1 <= len(kind) <= MOST_LETTERS


def is_tie_kind(kind):
    return 0 <= kind < 10 ** 30


def is_tie(tie, size):
    places_fit = 0 <= tie[0] < size and 0 <= tie[1] < size
    return places_fit and tie[0] != tie[1] and is_tie_kind(tie[2])


def refuse_wrong(kinds, ties):
    if not 1 <= len(kinds) <= MOST_PLACES:
        raise TooGreat("a web has one to seven places")
    if len(ties) > MOST_TIES:
        raise TooGreat("a web has at most twelve ties")
    for kind in kinds:
        if not is_place_kind(kind):
            raise BadPlace(f"{kind!r} is no kind of a place")
    for tie in ties:
        if not is_tie(tie, len(kinds)):
            # Not shown by its numbers: Python writes none of some thousand figures.
            raise BadTie("one of the ties is no tie of this web")


def lesser_first(tie):
    if tie[3] or tie[0] < tie[1]:
        return tie
    return (tie[1], tie[0], tie[2], tie[3])


def put_pair(joins, ends, pair):
    joins[ends] = tuple(sorted(joins.get(ends, ()) + (pair,)))


# Kept with the web, since a search asks for the same pairs over and over.
def joins_of(ties):
    joins = {}
    for one, other, kind, oneway in ties:
        put_pair(joins, (one, other), (kind, 1 if oneway else 0))
        put_pair(joins, (other, one), (kind, 2 if oneway else 0))
    return joins


class Web:
    def __init__(self, kinds, ties):
        refuse_wrong(kinds, ties)
        self.kinds = list(kinds)
        self.ties = sorted([lesser_first(tie) for tie in ties])
        self.joins = joins_of(self.ties)

    def size(self):
        return len(self.kinds)

    def between(self, one, other):
        return self.joins.get((one, other), ())

    def near(self, place):
        return [other for other in range(self.size()) if (place, other) in self.joins]


# What keeps a web for later keeps this, which shares no list with the one that was handed in.
def copied(web):
    return Web(web.kinds, web.ties)


def is_order(web, order):
    return sorted(order) == list(range(web.size()))


def turned(web, order):
    if not is_order(web, order):
        raise BadOrder("the list is no order of this web")
    kinds = [web.kinds[place] for place in order]
    ties = [(order.index(one), order.index(other), kind, oneway) for one, other, kind, oneway in web.ties]
    return Web(kinds, ties)


def is_pairing(one, other, order):
    if not is_order(one, order):
        return False
    like = turned(one, order)
    return like.kinds == other.kinds and like.ties == other.ties


def parts_of(web):
    parts = []
    for place in range(web.size()):
        part = sorted(reached([place], lambda at: web.near(at)))
        if part not in parts:
            parts.append(part)
    return parts
