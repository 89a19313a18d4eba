"""Reading: a web out of a text of places, marks, boughs and rings."""

from tieword.errors import BadText
from tieword.webs import Web, is_place_kind

MOST_FIGURES = 30
MOST_RING = 99
LEADS = {"~": 0, ">": 1, "<": 2}


def is_number(figures):
    return 1 <= len(figures) <= MOST_FIGURES and (figures == "0" or figures[0] != "0")


def tie_of(ahead, behind, kind, lead):
    if lead == 2:
        return (behind, ahead, kind, True)
    return (ahead, behind, kind, lead == 1)


class Reader:
    def __init__(self, text):
        self.text = text
        self.at = 0
        self.kinds = []
        self.ties = []
        # The places that boughs not yet ended hang on: a list, not calls within calls,
        # since boughs may lie within boughs to any depth.
        self.hung = []
        # By number, the place that began a ring; a closed one stays, since none may come twice.
        self.begun = {}
        self.closed = {}

    # The empty text behind the end, which is less than every sign and no mark.
    def sign(self):
        return self.text[self.at:self.at + 1]

    def skip(self, sign):
        if self.sign() != sign:
            raise BadText(f"{sign!r} is missing")
        self.at += 1

    def taken(self, low, high):
        start = self.at
        while low <= self.sign() <= high:
            self.at += 1
        return self.text[start:self.at]

    def number(self):
        figures = self.taken("0", "9")
        if not is_number(figures):
            raise BadText(f"{figures!r} is no number")
        return int(figures)

    def marks(self):
        found = []
        while self.sign() in LEADS:
            lead = LEADS[self.sign()]
            self.at += 1
            found.append((self.number(), lead))
        if not found:
            raise BadText("a mark is missing")
        return found

    def join_by(self, marks, ahead, behind):
        self.ties.extend([tie_of(ahead, behind, kind, lead) for kind, lead in marks])

    def begin_ring(self, number, place):
        if number in self.begun:
            raise BadText(f"ring {number} begins twice")
        self.begun[number] = place

    def close_ring(self, number, place, marks):
        if number not in self.begun or number in self.closed:
            raise BadText(f"ring {number} is not there to be closed")
        if self.begun[number] == place:
            raise BadText(f"ring {number} is closed where it begins")
        self.closed[number] = True
        self.join_by(marks, self.begun[number], place)

    def ring_sign(self, place):
        self.skip("{")
        number = self.number()
        if not 1 <= number <= MOST_RING:
            raise BadText(f"{number} is no number of a ring")
        if self.sign() == ":":
            self.skip(":")
            self.close_ring(number, place, self.marks())
        else:
            self.begin_ring(number, place)
        self.skip("}")

    def place(self):
        kind = self.taken("a", "z")
        if not is_place_kind(kind):
            raise BadText(f"{kind!r} is no kind of a place")
        place = len(self.kinds)
        self.kinds.append(kind)
        while self.sign() == "{":
            self.ring_sign(place)
        return place

    def follow(self, ahead):
        marks = self.marks()
        behind = self.place()
        self.join_by(marks, ahead, behind)
        return behind

    # Tells the place that the next marks or bough would hang on.
    def go_on(self, here):
        sign = self.sign()
        if sign in LEADS:
            return self.follow(here)
        self.at += 1
        if sign == "(":
            self.hung.append(here)
            return self.follow(here)
        if sign == ")" and self.hung:
            return self.hung.pop()
        if sign == "." and not self.hung:
            return self.place()
        raise BadText(f"{sign!r} does not belong there")

    def read_all(self):
        here = self.place()
        while self.at < len(self.text):
            here = self.go_on(here)
        if self.hung:
            raise BadText("a bough has no end")
        if len(self.closed) < len(self.begun):
            raise BadText("a ring is never closed")


def read_web(text):
    reader = Reader(text)
    reader.read_all()
    # Only here, behind all that BadText is due for, is it refused as too great.
    return Web(reader.kinds, reader.ties)
