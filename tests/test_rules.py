import itertools
import random
import unittest

from tests.helping import (bare, both_ways, least_by_hand, named_webs, random_order, random_webs, ring, same,
                           sorted_ties, turned_by_hand, turnings_by_hand, ways_by_hand, within, writing_by_hand)
from tieword.errors import BadRule, NoWay, TooGreat, TooMany, WebError
from tieword.rules import Rule, change, outcomes, rule_turnings, rule_ways
from tieword.webs import Web

TIE = (0, 1, 0, False)
ONE = Web(["a"], [])


def likewise(tie):
    """A tie as a thing that is the same however it was handed in."""
    one, other, kind, oneway = tie
    return ((one, other) if oneway else frozenset((one, other)), kind, oneway)


def change_by_hand(left, right, kept, web, way):
    """The kinds and the ties that come of a rule, by the document's words."""
    out = way[kept:]
    stayed = [place for place in range(len(web.kinds)) if place not in out]
    # For each place of right, a name of it: a number of the web, or a text for a new one.
    names = list(way[:kept]) + [f"new {place}" for place in range(kept, len(right.kinds))]
    places = stayed + names[kept:]
    kinds = {place: web.kinds[place] for place in stayed}
    kinds.update(zip(names, right.kinds))
    ties = [tie for tie in web.ties if tie[0] not in out and tie[1] not in out]
    for one, other, kind, oneway in left.ties:
        if one < kept and other < kept:
            gone = likewise((way[one], way[other], kind, oneway))
            ties.pop([likewise(tie) for tie in ties].index(gone))
    ties += [(names[one], names[other], kind, oneway) for one, other, kind, oneway in right.ties]
    numbered = [(places.index(one), places.index(other), kind, oneway) for one, other, kind, oneway in ties]
    return [kinds[place] for place in places], sorted_ties(numbered)


def is_too_great(kinds, ties):
    return len(kinds) > 7 or len(ties) > 12


def outcomes_by_hand(left, right, kept, web):
    texts = set()
    for way in ways_by_hand(left, web):
        kinds, ties = change_by_hand(left, right, kept, web, way)
        if not is_too_great(kinds, ties):
            texts.add(writing_by_hand(Web(kinds, ties)))
    return sorted(texts)


def rule_turnings_by_hand(left, right, kept):
    found = []
    for turning in sorted(turnings_by_hand(left)):
        if set(turning[:kept]) == set(range(kept)):
            if any(other[:kept] == turning[:kept] for other in turnings_by_hand(right)):
                found.append(list(turning))
    return found


def cases(seed, many, most_size=6):
    """Rules, by left, right and kept, and webs in which their left web often lies."""
    source = random.Random(seed)
    found = []
    for web, right in zip(random_webs(seed, many, most_size), random_webs(seed + 1, many, 4)):
        left = within(source, web, source.randint(1, min(4, web.size())))[0]
        for kept in range(min(left.size(), right.size()) + 1):
            found.append((left, right, kept, web))
    return found


def even_cases(seed, many):
    """Rules whose webs have many turnings, kept places and others likewise."""
    source = random.Random(seed)
    ties = {2: [[]],
            3: [[], both_ways([(0, 1), (1, 2)]), ring(0, 1, 2), [(0, 1, 0, True), (1, 2, 0, True), (2, 0, 0, True)]],
            4: [ring(0, 1, 2, 3), both_ways([(0, 1), (2, 3)]), both_ways([(0, 1), (0, 2), (0, 3)]),
                [(0, 1, 0, True), (2, 3, 0, True)]]}
    shapes = [Web(["a"] * size, each) for size in ties for each in ties[size]]
    shapes += [Web(["a", "b", "a", "b"], []), Web(["a", "a", "b"], both_ways([(0, 1)]))]
    found = []
    for again in range(many):
        left, right = [turned_by_hand(web, random_order(source, web.size())) for web in source.choices(shapes, k=2)]
        found.append((left, right, source.randint(0, min(left.size(), right.size()))))
    return found


class Rules(unittest.TestCase):
    def test_fields(self):
        left, right = Web(["a", "b"], [(1, 0, 5, True)]), Web(["c", "d", "e"], [(2, 0, 6, False)])
        rule = Rule(left, right, 1)
        self.assertIsInstance(rule.left, Web)
        self.assertIsInstance(rule.right, Web)
        self.assertTrue(same(rule.left, left))
        self.assertTrue(same(rule.right, right))
        self.assertEqual(rule.kept, 1)

    def test_kept(self):
        for one, other in itertools.product(range(1, 8), repeat=2):
            left, right = bare(one), Web(["b"] * other, [])
            for kept in range(min(one, other) + 1):
                self.assertEqual(Rule(left, right, kept).kept, kept)
            above = [min(one, other) + 1, max(one, other), max(one, other) + 1, 8, 100, 10 ** 5000]
            for kept in [-1, -2, -7, -10 ** 5000] + [kept for kept in above if kept > min(one, other)]:
                for refusal in (BadRule, WebError, ValueError):
                    with self.assertRaises(refusal):
                        Rule(left, right, kept)


class Change(unittest.TestCase):
    def assert_change(self, rule, web, way, kinds, ties):
        made = change(rule, web, way)
        self.assertIsInstance(made, Web)
        self.assertEqual((made.kinds, made.ties), (kinds, ties))
        self.assertEqual(change_by_hand(rule.left, rule.right, rule.kept, web, way), (kinds, ties))

    def test_places_taken_out_and_put_in(self):
        web = Web(["a", "b", "c", "d"], [])
        self.assert_change(Rule(Web(["b"], []), Web(["x"], []), 0), web, [1], ["a", "c", "d", "x"], [])
        self.assert_change(Rule(Web(["d", "a"], []), Web(["y", "x", "y"], []), 0), web, [3, 0],
                           ["b", "c", "y", "x", "y"], [])
        # The kept place stays where it is, the others of left go, the others of right come behind all.
        self.assert_change(Rule(Web(["c", "a"], []), Web(["z", "x", "y"], []), 1), web, [2, 0],
                           ["b", "z", "d", "x", "y"], [])
        self.assert_change(Rule(Web(["c", "b", "a"], []), Web(["z"], []), 1), web, [2, 1, 0], ["z", "d"], [])

    def test_all_places_taken_out(self):
        web = Web(["a", "b"], [TIE])
        self.assert_change(Rule(Web(["b", "a"], []), Web(["x"], []), 0), web, [1, 0], ["x"], [])

    def test_nothing_to_do(self):
        web = Web(["b", "a"], [(1, 0, 5, True), (0, 1, 5, False)])
        self.assert_change(Rule(ONE, ONE, 1), web, [1], ["b", "a"], [(0, 1, 5, False), (1, 0, 5, True)])
        self.assert_change(Rule(web, web, 2), web, [0, 1], ["b", "a"], [(0, 1, 5, False), (1, 0, 5, True)])

    def test_kinds_of_kept_places(self):
        web = Web(["a", "b", "a"], [(0, 1, 0, False), (2, 1, 0, True)])
        rule = Rule(Web(["a", "b"], []), Web(["x", "y"], []), 2)
        self.assert_change(rule, web, [0, 1], ["x", "y", "a"], [(0, 1, 0, False), (2, 1, 0, True)])
        self.assert_change(rule, web, [2, 1], ["a", "y", "x"], [(0, 1, 0, False), (2, 1, 0, True)])

    def test_ties_of_left_are_taken_out_once_each(self):
        web = Web(["a", "b"], [(0, 1, 5, False)] * 3 + [(0, 1, 6, False)])
        for many in range(4):
            rule = Rule(Web(["a", "b"], [(0, 1, 5, False)] * many), Web(["a", "b"], []), 2)
            self.assert_change(rule, web, [0, 1], ["a", "b"], [(0, 1, 5, False)] * (3 - many) + [(0, 1, 6, False)])

    def test_a_tie_of_left_the_other_way_round(self):
        # Left keeps it as from 0 to 1, the web as from 0 to 1 too, but the way leads 0 to 1.
        rule = Rule(Web(["b", "a"], [(0, 1, 5, False)]), Web(["b", "a"], [(0, 1, 7, True)]), 2)
        self.assert_change(rule, Web(["a", "b"], [(0, 1, 5, False)]), [1, 0], ["a", "b"], [(1, 0, 7, True)])

    def test_one_way_ties_both_ways_about(self):
        web = Web(["a", "b"], [(0, 1, 5, True), (1, 0, 5, True), (0, 1, 5, False)])
        for tie, left in (((0, 1, 5, True), [(0, 1, 5, False), (1, 0, 5, True)]),
                          ((1, 0, 5, True), [(0, 1, 5, False), (0, 1, 5, True)]),
                          ((0, 1, 5, False), [(0, 1, 5, True), (1, 0, 5, True)])):
            self.assert_change(Rule(Web(["a", "b"], [tie]), Web(["a", "b"], []), 2), web, [0, 1], ["a", "b"], left)
            about = turned_by_hand(Web(["a", "b"], [tie]), [1, 0])
            self.assert_change(Rule(about, Web(["b", "a"], []), 2), web, [1, 0], ["a", "b"], left)

    def test_ties_to_places_that_were_taken_out(self):
        web = Web(["a", "b", "c", "d"], [(0, 1, 0, False), (1, 2, 1, True), (3, 1, 2, True), (2, 3, 3, False),
                                         (0, 3, 4, True)])
        # All ties of b go with it, also those that left has not.
        self.assert_change(Rule(Web(["b"], []), Web(["x"], []), 0), web, [1], ["a", "c", "d", "x"],
                           [(0, 2, 4, True), (1, 2, 3, False)])
        rule = Rule(Web(["a", "b"], [(0, 1, 0, False)]), Web(["a", "x"], [(1, 0, 9, True)]), 1)
        self.assert_change(rule, web, [0, 1], ["a", "c", "d", "x"],
                           [(0, 2, 4, True), (1, 2, 3, False), (3, 0, 9, True)])

    def test_ties_of_left_to_places_taken_out_take_no_other(self):
        # The tie of left goes to the place taken out; the doubled one with it, and the one of a and c stays.
        web = Web(["a", "b", "c"], [(0, 1, 0, False), (0, 1, 0, False), (0, 2, 0, False)])
        rule = Rule(Web(["a", "b"], [(0, 1, 0, False)]), Web(["a"], []), 1)
        self.assert_change(rule, web, [0, 1], ["a", "c"], [(0, 1, 0, False)])

    def test_ties_that_left_has_not_stay_between_kept_places(self):
        web = Web(["a", "b"], [(0, 1, 0, False), (1, 0, 1, True)])
        rule = Rule(Web(["a", "b"], [(0, 1, 0, False)]), Web(["a", "b"], [(0, 1, 2, False)]), 2)
        self.assert_change(rule, web, [0, 1], ["a", "b"], [(0, 1, 2, False), (1, 0, 1, True)])

    def test_ties_of_right(self):
        web = Web(["c", "b", "a"], [(0, 2, 0, False)])
        right = Web(["a", "b", "x", "y"], [(0, 1, 1, True), (1, 0, 2, True), (0, 2, 3, False), (3, 1, 4, True),
                                           (2, 3, 5, False), (2, 3, 5, False)])
        self.assert_change(Rule(Web(["a", "b"], []), right, 2), web, [2, 1], ["c", "b", "a", "x", "y"],
                           [(0, 2, 0, False), (1, 2, 2, True), (2, 1, 1, True), (2, 3, 3, False), (3, 4, 5, False),
                            (3, 4, 5, False), (4, 1, 4, True)])

    def test_against_the_words(self):
        tried = 0
        for left, right, kept, web in cases(110, 120):
            rule = Rule(left, right, kept)
            for way in ways_by_hand(left, web)[:40]:
                kinds, ties = change_by_hand(left, right, kept, web, way)
                if is_too_great(kinds, ties):
                    with self.assertRaises(TooGreat):
                        change(rule, web, way)
                else:
                    made = change(rule, web, way)
                    self.assertEqual((made.kinds, made.ties), (kinds, ties))
                    tried += 1
        self.assertGreater(tried, 1000)

    def test_no_way(self):
        rule = Rule(Web(["a", "b"], [(0, 1, 5, True)]), Web(["c"], []), 1)
        web = Web(["a", "b", "a", "b"], [(0, 1, 5, True), (2, 1, 5, False), (3, 2, 5, True)])
        self.assertTrue(same(change(rule, web, [0, 1]), Web(["c", "a", "b"], [(2, 1, 5, True)])))
        for way in ([], [0], [1], [0, 1, 2], [1, 0], [2, 1], [2, 3], [0, 3], [0, 0], [0, -3], [-4, 1], [0, 4], [4, 1],
                    [10 ** 5000, 1]):
            for refusal in (NoWay, WebError):
                with self.assertRaises(refusal):
                    change(rule, web, way)

    def test_seven_places_and_eight(self):
        for size in range(1, 8):
            # One of so many places stays, and so many come to it.
            self.assertEqual(change(Rule(ONE, bare(8 - size), 1), bare(size), [0]).kinds, ["a"] * 7)
            if size > 1:
                for refusal in (TooGreat, WebError):
                    with self.assertRaises(refusal):
                        change(Rule(ONE, bare(9 - size), 1), bare(size), [0])
        self.assertEqual(change(Rule(ONE, ONE, 0), bare(7), [3]).size(), 7)
        with self.assertRaises(TooGreat):
            change(Rule(ONE, bare(2), 0), bare(7), [3])
        with self.assertRaises(TooGreat):
            change(Rule(ONE, bare(7), 0), bare(7), [3])

    def test_twelve_ties_and_thirteen(self):
        two = Web(["a", "a"], [TIE] * 6)
        self.assertEqual(change(Rule(bare(2), two, 2), two, [1, 0]).ties, [TIE] * 12)
        more = Web(["a", "a"], [TIE] * 7)
        for refusal in (TooGreat, WebError):
            with self.assertRaises(refusal):
                change(Rule(bare(2), more, 2), two, [1, 0])
            with self.assertRaises(refusal):
                change(Rule(bare(2), two, 2), more, [0, 1])
        # Counted behind the rule: one is taken out for the one that comes.
        full = Web(["a", "a"], [TIE] * 12)
        rule = Rule(Web(["a", "a"], [TIE]), Web(["a", "a"], [(0, 1, 1, True)]), 2)
        self.assertEqual(change(rule, full, [1, 0]).ties, [TIE] * 11 + [(1, 0, 1, True)])
        # And those of a place taken out go.
        self.assertEqual(change(Rule(ONE, full, 0), full, [0]).ties, [(1, 2, 0, False)] * 12)
        self.assertEqual(change(Rule(full, full, 2), full, [0, 1]).ties, [TIE] * 12)

    def test_no_way_ahead_of_too_great(self):
        for way in ([], [7], [-1], [0, 1], [6]):
            with self.assertRaises(NoWay):
                change(Rule(ONE, bare(7), 1), Web(["a"] * 6 + ["b"], []), way)
        with self.assertRaises(TooGreat):
            change(Rule(ONE, bare(7), 1), Web(["a"] * 6 + ["b"], []), [0])
        full = Web(["a", "b"], [TIE] * 12)
        with self.assertRaises(NoWay):
            change(Rule(bare(2), Web(["a", "a"], [TIE] * 12), 2), full, [0, 1])


class Outcomes(unittest.TestCase):
    def test_by_the_letter(self):
        web = Web(["a", "b", "a"], both_ways([(0, 1), (1, 2)]))
        self.assertEqual(outcomes(Rule(ONE, Web(["c"], []), 1), web), ["a~0b~0c"])
        self.assertEqual(outcomes(Rule(ONE, Web(["c"], []), 0), web), ["a~0b.c"])
        self.assertEqual(outcomes(Rule(ONE, Web(["a", "c"], [TIE]), 1), web), ["a~0b~0a~0c"])
        self.assertEqual(outcomes(Rule(Web(["b"], []), Web(["c"], []), 0), web), ["a.a.c"])
        self.assertEqual(outcomes(Rule(Web(["z"], []), Web(["c"], []), 0), web), [])

    def test_rising_and_each_once(self):
        row = Web(["a"] * 4, both_ways([(0, 1), (1, 2), (2, 3)]))
        self.assertEqual(outcomes(Rule(ONE, Web(["b"], []), 1), row), ["a~0a~0a~0b", "a~0b~0a~0a"])
        self.assertEqual(outcomes(Rule(ONE, Web(["b"], []), 0), row), ["a.a~0a.b", "a~0a~0a.b"])
        self.assertEqual(outcomes(Rule(bare(2), Web(["a", "a"], [TIE]), 2), bare(4)), ["a.a.a~0a"])

    def test_those_that_are_too_great_are_left_out(self):
        # The first place takes ten ties with it, the last one but one, so that thirteen would come.
        web = Web(["a", "b", "a"], [(0, 1, 0, False)] * 10 + [(1, 2, 0, False)])
        rule = Rule(ONE, Web(["a", "b"], [(0, 1, 1, True)] * 3), 0)
        self.assertEqual(outcomes(rule, web), ["a~0b.a>1>1>1b"])
        with self.assertRaises(TooGreat):
            change(rule, web, [2])
        self.assertEqual(outcomes(Rule(ONE, bare(2), 1), bare(7)), [])
        self.assertEqual(outcomes(Rule(ONE, bare(2), 1), bare(6)), ["a.a.a.a.a.a.a"])

    def test_against_all_ways(self):
        several = left_out = 0
        for left, right, kept, web in cases(111, 60):
            ways = ways_by_hand(left, web)
            if len(ways) <= 720:
                rule = Rule(left, right, kept)
                texts = set()
                for way in ways:
                    try:
                        texts.add(writing_by_hand(change(rule, web, way)))
                    except TooGreat:
                        left_out += 1
                told = outcomes(rule, web)
                self.assertIsInstance(told, list)
                self.assertEqual(told, sorted(texts))
                self.assertEqual(told, outcomes_by_hand(left, right, kept, web))
                several += len(told) > 1
        self.assertGreater(several, 30)
        self.assertGreater(left_out, 10)

    def test_720_ways(self):
        self.assertEqual(outcomes(Rule(bare(6), Web(["a"] * 6, [(0, 1, 0, True)]), 6), bare(6)), ["a.a.a.a.a>0a"])

    def test_more_ways_are_refused(self):
        for size in (4, 5, 6, 7):
            for kept in (0, 1):
                for refusal in (TooMany, WebError):
                    with self.assertRaises(refusal):
                        outcomes(Rule(bare(size), ONE, kept), bare(7))
        # Though all that comes of it is too great.
        with self.assertRaises(TooMany):
            outcomes(Rule(bare(4), bare(7), 0), bare(7))

    def test_turnings_are_no_hindrance(self):
        # Left and right have 5040 turnings, but there are few ways.
        self.assertEqual(outcomes(Rule(ONE, bare(7), 1), bare(1)), ["a.a.a.a.a.a.a"])
        self.assertEqual(outcomes(Rule(bare(7), ONE, 1), Web(["a"] * 6 + ["b"], [])), [])

    def test_same_for_alike_webs(self):
        source = random.Random(112)
        for left, right, kept, web in cases(112, 20):
            if len(ways_by_hand(left, web)) <= 720:
                rule = Rule(left, right, kept)
                like = turned_by_hand(web, random_order(source, web.size()))
                self.assertEqual(outcomes(rule, like), outcomes(rule, web))


class RuleTurnings(unittest.TestCase):
    def test_by_the_letter(self):
        self.assertEqual(rule_turnings(Rule(bare(3), bare(3), 3)), [list(each) for each in
                                                                  itertools.permutations(range(3))])
        # The turnings of left that leave the third place, and then those that leave the first.
        self.assertEqual(rule_turnings(Rule(bare(3), bare(2), 2)), [[0, 1, 2], [1, 0, 2]])
        self.assertEqual(rule_turnings(Rule(bare(3), bare(2), 1)), [[0, 1, 2], [0, 2, 1]])
        # Right tells the two kept places apart.
        self.assertEqual(rule_turnings(Rule(bare(2), Web(["a", "b"], []), 2)), [[0, 1]])
        self.assertEqual(rule_turnings(Rule(bare(2), Web(["a", "a"], [(0, 1, 0, True)]), 2)), [[0, 1]])
        self.assertEqual(rule_turnings(Rule(bare(2), Web(["a", "a"], [(0, 1, 0, False)]), 2)), [[0, 1], [1, 0]])
        # Left does.
        self.assertEqual(rule_turnings(Rule(Web(["a", "b"], []), bare(2), 2)), [[0, 1]])
        # A place put in tells them apart.
        self.assertEqual(rule_turnings(Rule(bare(2), Web(["a"] * 3, [(0, 2, 0, False)]), 2)), [[0, 1]])

    def test_where_right_turns_only_with_the_places_put_in(self):
        right = Web(["a", "a", "b", "b"], both_ways([(0, 2), (1, 3)]))
        self.assertEqual(rule_turnings(Rule(bare(2), right, 2)), [[0, 1], [1, 0]])

    def test_kept_places_lead_to_kept_places(self):
        # Left and right both turn 0 and 1 about, but 1 is kept in neither, and is not the same place in both.
        self.assertEqual(rule_turnings(Rule(bare(2), bare(2), 1)), [[0, 1]])
        row = Web(["a"] * 3, both_ways([(0, 1), (1, 2)]))
        self.assertEqual(rule_turnings(Rule(row, row, 2)), [[0, 1, 2]])
        self.assertEqual(rule_turnings(Rule(row, row, 3)), [[0, 1, 2], [2, 1, 0]])

    def test_no_place_kept(self):
        for left, right, kept in even_cases(113, 40):
            told = rule_turnings(Rule(left, right, 0))
            self.assertEqual(told, [list(turning) for turning in sorted(turnings_by_hand(left))])

    def test_against_all_turnings(self):
        fewer = 0
        for left, right, kept in even_cases(114, 250) + [case[:3] for case in cases(114, 40)]:
            told = rule_turnings(Rule(left, right, kept))
            self.assertEqual(told, rule_turnings_by_hand(left, right, kept))
            fewer += 1 < len(told) < len(turnings_by_hand(left))
        self.assertGreater(fewer, 20)

    def test_720_turnings_are_told(self):
        self.assertTrue(rule_turnings(Rule(bare(6), bare(6), 6)) == [list(each) for each in
                                                                   itertools.permutations(range(6))])
        self.assertEqual(len(rule_turnings(Rule(bare(6), ONE, 0))), 720)
        self.assertEqual(rule_turnings(Rule(ONE, bare(6), 0)), [[0]])

    def test_more_turnings_are_refused(self):
        for left, right in ((bare(7), ONE), (ONE, bare(7)), (bare(7), bare(7)), (Web(["b"], []), bare(7))):
            for kept in (0, 1):
                for refusal in (TooMany, WebError):
                    with self.assertRaises(refusal):
                        rule_turnings(Rule(left, right, kept))


class RuleWays(unittest.TestCase):
    def test_by_the_letter(self):
        self.assertEqual(rule_ways(Rule(bare(2), bare(2), 2), bare(3)), [[0, 1], [0, 2], [1, 2]])
        self.assertEqual(rule_ways(Rule(bare(2), bare(2), 1), bare(3)),
                         [[0, 1], [0, 2], [1, 0], [1, 2], [2, 0], [2, 1]])
        self.assertEqual(rule_ways(Rule(bare(2), bare(2), 0), bare(3)), [[0, 1], [0, 2], [1, 2]])
        self.assertEqual(rule_ways(Rule(bare(2), Web(["a", "b"], []), 2), bare(2)), [[0, 1], [1, 0]])
        self.assertEqual(rule_ways(Rule(Web(["b"], []), ONE, 1), bare(2)), [])

    def check(self, left, right, kept, web):
        rule = Rule(left, right, kept)
        ways, turnings = ways_by_hand(left, web), rule_turnings_by_hand(left, right, kept)
        if len(ways) > 720:
            return
        told = rule_ways(rule, web)
        self.assertTrue(told == least_by_hand(ways, turnings), (left.ties, right.ties, kept, web.ties))
        self.assertEqual(len(told) * len(turnings), len(ways))
        texts = set()
        for way in told:
            kinds, ties = change_by_hand(left, right, kept, web, way)
            if not is_too_great(kinds, ties):
                texts.add(writing_by_hand(Web(kinds, ties)))
        self.assertEqual(sorted(texts), outcomes(rule, web))

    def test_against_all_ways(self):
        for left, right, kept, web in cases(115, 40):
            self.check(left, right, kept, web)

    def test_where_there_are_turnings(self):
        webs = [bare(5), named_webs()["ring of six"], named_webs()["two rings of three"],
                Web(["a"] * 5, ring(0, 1, 2, 3, 4) + ring(0, 2, 4, 1, 3))]
        for (left, right, kept), web in itertools.product(even_cases(116, 40), webs):
            self.check(left, right, kept, web)

    def test_720_ways(self):
        self.assertEqual(rule_ways(Rule(bare(6), bare(6), 6), bare(6)), [[0, 1, 2, 3, 4, 5]])
        self.assertEqual(len(rule_ways(Rule(bare(6), bare(6), 3), bare(6))), 20)
        told = rule_ways(Rule(bare(5), Web(list("abcde"), []), 5), bare(6))
        self.assertTrue(told == [list(way) for way in itertools.permutations(range(6), 5)])

    def test_more_ways_are_refused(self):
        for size in (4, 5, 6):
            for refusal in (TooMany, WebError):
                with self.assertRaises(refusal):
                    rule_ways(Rule(bare(size), ONE, 1), bare(7))

    def test_more_turnings_are_refused_though_there_is_no_way(self):
        for left, right in ((bare(7), ONE), (ONE, bare(7)), (bare(7), bare(7))):
            for web in (Web(["b"], []), bare(1)):
                for kept in (0, 1):
                    with self.assertRaises(TooMany):
                        rule_ways(Rule(left, right, kept), web)


class NothingKeptOrChanged(unittest.TestCase):
    def test_nothing_handed_in_is_changed(self):
        for left, right, kept, web in cases(117, 20):
            if len(ways_by_hand(left, web)) > 720:
                continue
            rule = Rule(left, right, kept)
            webs = (left, right, web, rule.left, rule.right)
            before = [(list(each.kinds), list(each.ties)) for each in webs]
            for way in ways_by_hand(left, web)[:10]:
                copy = list(way)
                try:
                    change(rule, web, way)
                except TooGreat:
                    pass
                self.assertEqual(way, copy)
            outcomes(rule, web)
            rule_turnings(rule)
            rule_ways(rule, web)
            self.assertEqual([(each.kinds, each.ties) for each in webs], before)
            self.assertEqual(rule.kept, kept)

    def test_what_is_refused_changes_nothing_either(self):
        rule, web, way = Rule(ONE, bare(7), 1), Web(["a", "b"], [TIE]), [0]
        with self.assertRaises(TooGreat):
            change(rule, web, way)
        with self.assertRaises(NoWay):
            change(rule, web, [1])
        self.assertEqual((web.kinds, web.ties, way), (["a", "b"], [TIE], [0]))
        self.assertEqual((rule.left.kinds, rule.right.kinds, rule.kept), (["a"], ["a"] * 7, 1))

    def test_lists_that_a_rule_was_made_of(self):
        kinds, ties = ["a", "b"], [TIE]
        more, others = ["c", "d", "e"], [(0, 2, 5, True)]
        left, right = Web(kinds, ties), Web(more, others)
        rule = Rule(left, right, 2)
        for each in (kinds, ties, more, others):
            each.clear()
        self.assertEqual((rule.left.kinds, rule.left.ties), (["a", "b"], [TIE]))
        self.assertEqual((rule.right.kinds, rule.right.ties), (["c", "d", "e"], [(0, 2, 5, True)]))
        for web in (left, right):
            web.kinds.clear()
            web.ties.clear()
            web.joins.clear()
        made = change(rule, Web(["b", "a"], [TIE, TIE]), [1, 0])
        self.assertEqual((made.kinds, made.ties), (["d", "c", "e"], [TIE, (1, 2, 5, True)]))

    def test_what_is_told_is_the_askers_own(self):
        rule, web = Rule(bare(2), Web(["a", "a"], [TIE]), 2), bare(3)
        for ask in (lambda: outcomes(rule, web), lambda: rule_turnings(rule), lambda: rule_ways(rule, web)):
            told = ask()
            copies = [each if isinstance(each, str) else list(each) for each in told]
            for at, each in enumerate(told):
                if isinstance(each, list):
                    each.append(9)
                self.assertEqual(told[at + 1:], copies[at + 1:])
            told.clear()
            self.assertEqual(ask(), copies)

    def test_a_web_told_shares_no_list(self):
        web, way = Web(["a", "b"], [TIE]), [0]
        rule = Rule(ONE, ONE, 1)
        made = change(rule, web, way)
        for other in (web, rule.left, rule.right):
            self.assertIsNot(made.kinds, other.kinds)
            self.assertIsNot(made.ties, other.ties)
        way.clear()
        self.assertEqual((made.kinds, made.ties), (["a", "b"], [TIE]))


if __name__ == "__main__":
    unittest.main()
