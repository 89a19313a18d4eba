"""Writing: the one text of all webs that are alike."""

from tieword.search import least_order
from tieword.webs import parts_of, turned

# By the lead of a pair of between.
MARK_SIGNS = ("~", ">", "<")


def go_from(web, place, gone):
    gone[place] = []
    for other in web.near(place):
        if other not in gone:
            gone[place].append(other)
            go_from(web, other, gone)


# By place, those that are gone to from it; the places in the order in which they stand in the text.
def gone_to(web):
    gone = {}
    for part in parts_of(web):
        go_from(web, part[0], gone)
    return gone


# In the order of their numbers, each by its opening and its closing place.
def rings_of(web, gone):
    places = list(gone)
    rings = []
    for at, closing in enumerate(places):
        for opening in places[:at]:
            if web.between(opening, closing) and closing not in gone[opening]:
                rings.append((opening, closing))
    return rings


def marks_of(web, ahead, behind):
    return "".join([MARK_SIGNS[lead] + str(kind) for kind, lead in web.between(ahead, behind)])


def ring_signs(web, rings, place):
    signs = ""
    for number, ring in enumerate(rings, start=1):
        if place == ring[0]:
            signs += "{" + str(number) + "}"
        if place == ring[1]:
            signs += "{" + str(number) + ":" + marks_of(web, ring[0], place) + "}"
    return signs


def run_of(web, gone, rings, place):
    text = web.kinds[place] + ring_signs(web, rings, place)
    behind = [marks_of(web, place, other) + run_of(web, gone, rings, other) for other in gone[place]]
    for bough in behind[:-1]:
        text += "(" + bough + ")"
    return text + "".join(behind[-1:])


def written(web):
    like = turned(web, least_order(web))
    gone = gone_to(like)
    rings = rings_of(like, gone)
    return ".".join([run_of(like, gone, rings, part[0]) for part in parts_of(like)])


def written_order(web):
    order = least_order(web)
    return [order[place] for place in gone_to(turned(web, order))]
