"""Reports: what is told of a text's web is the same for all texts of alike webs."""

from tieword.groups import count_turnings, orbits
from tieword.reading import read_web
from tieword.webs import turned
from tieword.writing import written, written_order


def orbit_row(orbit):
    return " ".join(["orbit"] + [str(place) for place in orbit])


def report(text):
    web = read_web(text)
    # Turned so, its places are numbered as they stand in the writing.
    like = turned(web, written_order(web))
    rows = ["web " + written(web), "turnings " + str(count_turnings(web))]
    return "\n".join(rows + [orbit_row(orbit) for orbit in orbits(like)])
