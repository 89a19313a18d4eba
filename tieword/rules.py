"""Rules: a part of a web changed for another."""

from tieword.errors import BadRule, NoWay, TooGreat
from tieword.groups import all_turnings
from tieword.turnings import stay
from tieword.ways import all_ways, is_way, least_ways
from tieword.webs import Web, copied, lesser_first
from tieword.writing import written


class Rule:
    def __init__(self, left, right, kept):
        if not 0 <= kept <= min(left.size(), right.size()):
            raise BadRule("a rule keeps none to all places of left and of right")
        self.left = copied(left)
        self.right = copied(right)
        self.kept = kept


def ties_among(ties, places):
    return [tie for tie in ties if tie[0] in places and tie[1] in places]


def led(ties, places):
    return [(places[one], places[other], kind, oneway) for one, other, kind, oneway in ties]


# As the web numbers them: those that stay when the ties of left have been taken out.
def ties_left(rule, web, way, stayed):
    ties = ties_among(web.ties, stayed)
    for tie in led(ties_among(rule.left.ties, stay(rule.kept)), way):
        # Turned about as a web keeps it, or a tie that leads both ways would not be found.
        ties.remove(lesser_first(tie))
    return ties


# By place of right, its number in the web that comes of the rule.
def places_of_right(rule, way, stayed):
    new = rule.right.size() - rule.kept
    return [stayed.index(place) for place in way[:rule.kept]] + [len(stayed) + at for at in range(new)]


def change(rule, web, way):
    if not is_way(rule.left, web, way):
        raise NoWay("the list is no way of left in this web")
    stayed = [place for place in range(web.size()) if place not in way[rule.kept:]]
    numbers = dict([(place, at) for at, place in enumerate(stayed)])
    places = places_of_right(rule, way, stayed)
    kinds = [web.kinds[place] for place in stayed] + rule.right.kinds[rule.kept:]
    for at in range(rule.kept):
        kinds[places[at]] = rule.right.kinds[at]
    # What is too great is refused by Web itself.
    return Web(kinds, led(ties_left(rule, web, way, stayed), numbers) + led(rule.right.ties, places))


def changed_webs(rule, web):
    webs = []
    for way in all_ways(rule.left, web):
        try:
            webs.append(change(rule, web, way))
        except TooGreat:
            continue
    return webs


def outcomes(rule, web):
    return sorted(set([written(changed) for changed in changed_webs(rule, web)]))


def keeps(rule, turning):
    return sorted(turning[:rule.kept]) == stay(rule.kept)


def rule_turnings(rule):
    right_leads = [turning[:rule.kept] for turning in all_turnings(rule.right)]
    keeping = [turning for turning in all_turnings(rule.left) if keeps(rule, turning)]
    return [turning for turning in keeping if turning[:rule.kept] in right_leads]


def rule_ways(rule, web):
    return least_ways(all_ways(rule.left, web), rule_turnings(rule))
