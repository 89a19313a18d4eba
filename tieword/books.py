"""Pairings of alike webs, and books that keep webs under their writings."""

from tieword.errors import BadName, NoWeb, Twice
from tieword.search import least_order, row_of
from tieword.turnings import back, both
from tieword.webs import copied
from tieword.writing import written

MOST_SIGNS = 20


# Both webs turned by their least orders are the same web, so one goes there from the
# places of the other, and from there to the places of the one.
def pairing(one, other):
    here = least_order(one)
    there = least_order(other)
    if row_of(one, here) != row_of(other, there):
        return None
    return both(back(there), here)


# Compared by hand, since isalnum and its like take letters and figures of all scripts.
def is_name(name):
    signs_fit = all(["a" <= sign <= "z" or "0" <= sign <= "9" for sign in name])
    return signs_fit and 1 <= len(name) <= MOST_SIGNS


class Webbook:
    def __init__(self):
        # By writing, a pair of the name and of the web as it was noted.
        self.held = {}

    def note(self, web, name):
        if not is_name(name):
            raise BadName("a name is 1 to 20 small letters and figures")
        writing = written(web)
        if writing in self.held:
            raise Twice("an alike web is in the book")
        if name in self.names():
            raise Twice("a web in the book has this name")
        self.held[writing] = (name, copied(web))
        return writing

    def name_of(self, web):
        pair = self.held.get(written(web))
        return None if pair is None else pair[0]

    def shown(self, web):
        pair = self.held.get(written(web))
        return None if pair is None else (pair[0], pairing(pair[1], web))

    def strike(self, web):
        writing = written(web)
        if writing not in self.held:
            raise NoWeb("no alike web is in the book")
        return self.held.pop(writing)[0]

    def names(self):
        return [self.held[writing][0] for writing in sorted(self.held)]

    def many(self):
        return len(self.held)
