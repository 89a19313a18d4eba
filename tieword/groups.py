"""The turnings of a web onto itself: told by few, told all, counted."""

from tieword.search import searched
from tieword.turnings import come_of, made_of, orbits_of


def few_turnings(web):
    return searched(web)[2]


def all_turnings(web):
    return made_of(web.size(), few_turnings(web))


# Made without a bound, since a number is told however great it is: seven places have 5040 orders.
def count_turnings(web):
    return len(come_of(web.size(), few_turnings(web)))


# The few lead wherever all lead, so this holds too where all are too many to be told.
def orbits(web):
    return orbits_of(web.size(), few_turnings(web))
