"""What several tests need: webs to try, and the document's words gone by hand.

Nothing here asks the program for an answer that a test compares with: it only makes
webs by Web, and reads their fields.
"""

import itertools
import random
import re
from collections import Counter

from tieword.webs import Web


def pairs_between(web, one, other):
    pairs = []
    for first, second, kind, oneway in web.ties:
        if (first, second) == (one, other):
            pairs.append((kind, 1 if oneway else 0))
        elif (first, second) == (other, one):
            pairs.append((kind, 2 if oneway else 0))
    return tuple(sorted(pairs))


def table_of(web):
    size = len(web.kinds)
    return [[pairs_between(web, one, other) for other in range(size)] for one in range(size)]


def is_turning_by_hand(web, turning, table):
    size = len(web.kinds)
    for one in range(size):
        if web.kinds[turning[one]] != web.kinds[one]:
            return False
        for other in range(one + 1, size):
            if table[turning[one]][turning[other]] != table[one][other]:
                return False
    return True


def turnings_by_hand(web):
    table = table_of(web)
    orders = itertools.permutations(range(len(web.kinds)))
    return {order for order in orders if is_turning_by_hand(web, order, table)}


def orbits_by_hand(web):
    turnings = turnings_by_hand(web)
    found = []
    for place in range(len(web.kinds)):
        orbit = sorted({turning[place] for turning in turnings})
        if orbit not in found:
            found.append(orbit)
    return found


def is_alike_by_hand(one, other):
    size = len(one.kinds)
    if sorted(one.kinds) != sorted(other.kinds) or len(one.ties) != len(other.ties):
        return False
    left, right = table_of(one), table_of(other)
    for order in itertools.permutations(range(size)):
        if all(one.kinds[order[i]] == other.kinds[i] for i in range(size)) and all(
                left[order[i]][order[j]] == right[i][j] for i in range(size) for j in range(i)):
            return True
    return False


def ranks_by_hand(keys):
    return [len({other for other in keys if other < key}) for key in keys]


def keys_by_hand(table, parting):
    size = len(parting)
    return [(parting[at], tuple(sorted((parting[other], table[at][other]) for other in range(size) if other != at)))
            for at in range(size)]


def settled_by_hand(table, parting):
    while True:
        following = ranks_by_hand(keys_by_hand(table, parting))
        if following == parting:
            return following
        parting = following


def chosen_by_hand(table, parting, place):
    own = parting[place]
    if parting.count(own) > 1:
        parting = [rank + 1 if rank > own or (rank == own and at != place) else rank
                   for at, rank in enumerate(parting)]
    return settled_by_hand(table, parting)


def open_by_hand(parting):
    for rank in range(len(parting)):
        if parting.count(rank) > 1:
            return [place for place in range(len(parting)) if parting[place] == rank]
    return []


def ends_by_hand(web):
    """All ends of all ways of choices, the one of the least places first."""
    table = table_of(web)
    ends = []

    def go(parting):
        choices = open_by_hand(parting)
        for place in choices:
            go(chosen_by_hand(table, parting, place))
        if not choices:
            ends.append(sorted(range(len(parting)), key=parting.__getitem__))

    go(settled_by_hand(table, ranks_by_hand(web.kinds)))
    return ends


def row_by_hand(web, order):
    table = table_of(web)
    return (tuple(web.kinds[place] for place in order),
            tuple(table[one][other] for one, other in itertools.combinations(order, 2)))


def made_by_hand(size, turnings):
    made = {tuple(range(size))}
    new = list(made)
    while new:
        at = new.pop()
        for turning in turnings:
            then = tuple(turning[place] for place in at)
            if then not in made:
                made.add(then)
                new.append(then)
    return made


def both_ways(pairs):
    return [(one, other, 0, False) for one, other in pairs]


def ring(*places):
    return both_ways(zip(places, places[1:] + places[:1]))


def bare(size):
    return Web(["a"] * size, [])


def named_webs():
    """Webs whose places look alike, or have many turnings, or none."""
    six = ring(0, 1, 2, 3, 4, 5)
    return {
        "one place": Web(["a"], []),
        "two alike": bare(2),
        "five without ties": bare(5),
        "rings of three and four": Web(["a"] * 7, ring(0, 1, 2) + ring(3, 4, 5, 6)),
        "rings of three and four, mixed": Web(["a"] * 7, ring(0, 2, 4) + ring(1, 5, 3, 6)),
        "two rings of three": Web(["a"] * 6, ring(0, 1, 2) + ring(3, 4, 5)),
        "ring of six": Web(["a"] * 6, six),
        "six, straight across": Web(["a"] * 6, six + both_ways([(0, 3), (1, 4), (2, 5)])),
        "six, one across and two aslant": Web(["a"] * 6, six + both_ways([(0, 3), (1, 5), (2, 4)])),
        "ring of seven": Web(["a"] * 7, ring(0, 3, 6, 2, 5, 1, 4)),
        "row of seven": Web(["a"] * 7, both_ways([(k, k + 1) for k in range(6)])),
        "one-way ring of five": Web(["a"] * 5, [(k, (k + 1) % 5, 3, True) for k in range(5)]),
        "star of six": Web(["b"] + ["a"] * 5, both_ways([(0, k) for k in range(1, 6)])),
        "three pairs": Web(["a"] * 6, both_ways([(0, 5), (1, 4), (2, 3)])),
        "ties manifold": Web(["a"] * 4, ring(0, 1, 2, 3) + ring(0, 1, 2, 3) + [(0, 1, 0, True), (3, 2, 0, True)]),
        "all unlike": Web(["a", "b", "c"], both_ways([(0, 1)])),
        # A search of it goes wrong where turnings count that move the place chosen last.
        "two kinds of ties, woven": Web(["a"] * 6, ring(0, 2, 4, 1, 3, 5) + [
            (one, other, 1, False) for one, other in [(0, 1), (0, 4), (1, 5), (2, 3), (2, 5), (3, 4)]]),
    }


def random_web(source, size, kinds, most, tie_kinds):
    ties = []
    if size > 1:
        for one, other in (source.sample(range(size), 2) for tie in range(source.randint(0, most))):
            ties.append((one, other, source.choice(tie_kinds), source.random() < 0.3))
    return Web([source.choice(kinds) for place in range(size)], ties)


def woven(source):
    """Six places that look alike, each with the same ties: most of them are not alike at all."""
    ties = []
    used = set()
    for kind in (0, 1):
        oneway = source.random() < 0.7
        for again in range(200):
            after = source.sample(range(6), 6)
            pairs = {frozenset((place, after[place])) for place in range(6) if place != after[place]}
            if len(pairs) == 6 and not used & pairs:
                used |= pairs
                ties += [(place, after[place], kind, oneway) for place in range(6)]
                break
    return Web(["a"] * 6, ties)


def woven_webs(seed, many):
    source = random.Random(seed)
    return [woven(source) for at in range(many)]


def random_webs(seed, many, most_size=7):
    source = random.Random(seed)
    webs = []
    for at in range(many):
        kinds = source.choice([["a"], ["a", "b"], ["z", "ab", "b"]])
        tie_kinds = source.choice([[0], [0, 1], [9, 10, 10 ** 30 - 1]])
        webs.append(random_web(source, source.randint(1, most_size), kinds, source.choice([3, 6, 12]), tie_kinds))
    return webs


def random_order(source, size):
    return source.sample(range(size), size)


def random_parting(source, size):
    return ranks_by_hand([source.randint(0, size) for place in range(size)])


def turned_by_hand(web, order):
    spot = {place: k for k, place in enumerate(order)}
    return Web([web.kinds[place] for place in order],
               [(spot[one], spot[other], kind, oneway) for one, other, kind, oneway in web.ties])


NUMBER = "(?:0|[1-9][0-9]{0,29})"
MARKS = f"(?:[~<>]{NUMBER})+"
RING_SIGN = rf"\{{[1-9][0-9]?(?::{MARKS})?\}}"
# A bough that has been looked at is put down as "!".
PLACE = f"[a-z]{{1,3}}(?:{RING_SIGN})*!*"
RUN = f"{PLACE}(?:{MARKS}{PLACE})*"


def is_form_by_hand(text):
    """Whether a text has the form of a writing, its rings not looked at."""
    if "!" in text or "\n" in text:
        return False
    while True:
        shorter = re.sub(rf"\({MARKS}{RUN}\)", "!", text)
        if shorter == text:
            return re.fullmatch(rf"{RUN}(?:\.{RUN})*", text) is not None
        text = shorter


def are_rings_by_hand(text):
    """Whether each ring of a text that has the form is opened once, and closed once further behind at another place."""
    opened, closed, place = {}, {}, -1
    for kind, number, colon in re.findall(r"([a-z]+)|\{([0-9]+)(:?)", text):
        if kind:
            place += 1
        else:
            (closed if colon else opened).setdefault(number, []).append(place)
    once = all(len(places) == 1 for places in list(opened.values()) + list(closed.values()))
    return once and opened.keys() == closed.keys() and all(opened[number] < closed[number] for number in opened)


def refusal_by_hand(text):
    """The name of what a text is refused with, or None."""
    if not is_form_by_hand(text) or not are_rings_by_hand(text):
        return "BadText"
    places, ties = len(re.findall("[a-z]+", text)), len(re.findall("[~<>]", text))
    return "TooGreat" if places > 7 or ties > 12 else None


class TextMaker:
    """Makes a text by chance, and keeps the kinds and ties that it writes."""

    def __init__(self, source, size, most_marks=2):
        self.source = source
        self.most_marks = most_marks
        self.kinds = [source.choice(["a", "b", "zz", "abc"]) for place in range(size)]
        self.ties = []
        self.rings = {place: [] for place in range(size)}
        # Each place but the first comes behind one ahead of it, or begins a run.
        self.ahead = {}
        self.marks = {}
        at = [0]
        for place in range(1, size):
            if source.random() < 0.2:
                at = []
            else:
                at = at[:source.randint(1, len(at))]
                self.ahead[place] = at[-1]
                self.marks[place] = self.make_marks(at[-1], place)
            at = at + [place]

    def make_marks(self, ahead, behind):
        text = ""
        for again in range(self.source.randint(1, self.most_marks)):
            sign = self.source.choice("~<>")
            kind = self.source.choice([0, 1, 10, self.source.randrange(10 ** 30), 10 ** 30 - 1])
            ends = (behind, ahead) if sign == "<" else (ahead, behind)
            self.ties.append(ends + (kind, sign != "~"))
            text += f"{sign}{kind}"
        return text

    def add_rings(self, most):
        if len(self.kinds) > 1:
            for number in self.source.sample(range(1, 100), self.source.randint(0, most)):
                ahead, behind = sorted(self.source.sample(range(len(self.kinds)), 2))
                self.rings[ahead].append(f"{{{number}}}")
                self.rings[behind].append(f"{{{number}:{self.make_marks(ahead, behind)}}}")

    def run(self, place):
        self.source.shuffle(self.rings[place])
        text = self.kinds[place] + "".join(self.rings[place])
        behind = [other for other in self.ahead if self.ahead[other] == place]
        for other in behind:
            more = self.marks[other] + self.run(other)
            last = other == behind[-1] and self.source.random() < 0.7
            text += more if last else f"({more})"
        return text

    def text(self):
        return ".".join(self.run(place) for place in range(len(self.kinds)) if place not in self.ahead)


def sorted_ties(ties):
    return sorted(tie if tie[3] or tie[0] < tie[1] else (tie[1], tie[0]) + tie[2:] for tie in ties)


def marks_by_hand(pairs):
    return "".join("~><"[lead] + str(kind) for kind, lead in pairs)


def written_by_hand(web):
    """The writing by the document's words, from the least of all ends, and the places in the order of the text."""
    end = min(ends_by_hand(web), key=lambda end: row_by_hand(web, end))
    least = turned_by_hand(web, end)
    table = table_of(least)
    size = len(least.kinds)
    came = {}
    for start in range(size):
        todo = [(start, None)]
        while todo:
            place, ahead = todo.pop()
            if place not in came:
                came[place] = ahead
                todo += [(other, place) for other in reversed(range(size)) if table[place][other]]
    stood = list(came)
    pairs = [(closing, opening) for closing in range(size) for opening in range(closing)
             if table[stood[opening]][stood[closing]] and came[stood[closing]] != stood[opening]]
    signs = {place: "" for place in stood}
    for number, (closing, opening) in enumerate(sorted(pairs), 1):
        ahead, behind = stood[opening], stood[closing]
        signs[ahead] += f"{{{number}}}"
        signs[behind] += f"{{{number}:{marks_by_hand(table[ahead][behind])}}}"

    def run(place):
        more = [marks_by_hand(table[place][other]) + run(other) for other in stood if came[other] == place]
        boughs = "".join(f"({bough})" for bough in more[:-1])
        return least.kinds[place] + signs[place] + boughs + "".join(more[-1:])

    return ".".join(run(place) for place in stood if came[place] is None), [end[place] for place in stood]


def writing_by_hand(web):
    return written_by_hand(web)[0]


def same(one, other):
    """Whether two webs have the same kinds and ties."""
    return (one.kinds, one.ties) == (other.kinds, other.ties)


def is_way_by_hand(small, great, way, small_table, great_table):
    size = len(small.kinds)
    if any(great.kinds[way[place]] != small.kinds[place] for place in range(size)):
        return False
    return all(not Counter(small_table[one][other]) - Counter(great_table[way[one]][way[other]])
               for one, other in itertools.combinations(range(size), 2))


def ways_by_hand(small, great):
    """All ways, rising: all lists of unlike places are looked at."""
    tables = table_of(small), table_of(great)
    lists = itertools.permutations(range(len(great.kinds)), len(small.kinds))
    return [list(way) for way in lists if is_way_by_hand(small, great, way, *tables)]


def least_by_hand(ways, turnings):
    """Those ways that are the least of all that come of them by the turnings."""
    return [way for way in ways if way == min([way[place] for place in turning] for turning in turnings)]


def within(source, web, size):
    """A web of so many places that lies in this one, and a way in which it does."""
    way = source.sample(range(len(web.kinds)), size)
    ties = [(way.index(one), way.index(other), kind, oneway) for one, other, kind, oneway in web.ties
            if one in way and other in way and source.random() < 0.7]
    return Web([web.kinds[place] for place in way], ties), way
