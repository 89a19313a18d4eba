"""The search for the least row, and for turnings that make all turnings of a web."""

from tieword.parting import chosen, first_parting, open_class
from tieword.reach import reached


def row_of(web, order):
    joins = []
    for at, place in enumerate(order):
        joins.extend([web.between(place, other) for other in order[at + 1:]])
    return (tuple([web.kinds[place] for place in order]), tuple(joins))


def order_of(parting):
    return [parting.index(rank) for rank in range(len(parting))]


def leading(first, end):
    return [end[first.index(place)] for place in range(len(first))]


def leaves(turning, places):
    return all([turning[place] == place for place in places])


class Search:
    def __init__(self, web):
        self.web = web
        self.way = []
        self.first = []
        self.first_row = ()
        self.least = []
        self.best_row = ()
        self.turnings = []

    def begin(self, way, end, row):
        self.way = way
        self.first = end
        self.first_row = row
        self.least = end
        self.best_row = row

    # True where the end is alike to the first one, so that a turning came of it.
    def arrive(self, way, end):
        row = row_of(self.web, end)
        if not self.first:
            self.begin(way, end, row)
            return False
        if row < self.best_row:
            self.least = end
            self.best_row = row
        if row == self.first_row:
            self.turnings.append(leading(self.first, end))
            return True
        return False

    def left_out(self, way, tried, place):
        leaving = [turning for turning in self.turnings if leaves(turning, way)]
        return place in reached(tried, lambda at: [turning[at] for turning in leaving])

    def on_first(self, way):
        return self.way[:len(way)] == way

    # True where all that is left behind the point where this way parted from the first
    # one may be left out: a turning shows it to be what the first one's side held.
    def go(self, way, parting):
        choices = open_class(parting)
        if not choices:
            return self.arrive(way, order_of(parting))
        tried = []
        for place in choices:
            if not self.left_out(way, tried, place):
                tried.append(place)
                alike = self.go(way + [place], chosen(self.web, parting, place))
                if alike and not self.on_first(way):
                    return True
        return False


def searched(web):
    search = Search(web)
    search.go([], first_parting(web))
    # A copy, since first and least may be one and the same list.
    return (search.first, list(search.least), search.turnings)


def least_order(web):
    return searched(web)[1]


def least_row(web):
    return row_of(web, least_order(web))
