"""Turnings: lists that lead each place to one, done one behind another."""

from tieword.errors import TooMany
from tieword.reach import reached
from tieword.webs import is_pairing

MOST_TOLD = 720


# A web turned by a list has its own kinds and ties again just where places lead to
# places of their kind and between stays, so a turning is a pairing of a web with itself.
def is_turning(web, turning):
    return is_pairing(web, web, turning)


def stay(size):
    return list(range(size))


def both(one, other):
    return [other[place] for place in one]


def back(one):
    return [one.index(place) for place in range(len(one))]


# No turning need be done backwards: done often enough, each leads back by itself.
# Tuples, which can be looked up; where most is told, it stops short as soon as there are more.
def come_of(size, turnings, most=None):
    start = tuple(stay(size))
    return reached([start], lambda made: [tuple(both(made, turning)) for turning in turnings], most)


def made_of(size, turnings):
    made = come_of(size, turnings, MOST_TOLD)
    if len(made) > MOST_TOLD:
        raise TooMany("more than 720 come of these turnings")
    return [list(turning) for turning in sorted(made)]


def orbits_of(size, turnings):
    found = []
    for place in range(size):
        orbit = sorted(reached([place], lambda at: [turning[at] for turning in turnings]))
        if orbit not in found:
            found.append(orbit)
    return found
