import itertools
import math
import random
import unittest

from tests.helping import (bare, both_ways, is_way_by_hand, least_by_hand, named_webs, random_order, random_webs, ring,
                           table_of, turned_by_hand, turnings_by_hand, ways_by_hand, within, woven_webs)
from tieword.errors import TooMany, WebError
from tieword.turnings import both
from tieword.ways import all_ways, is_way, lies_in, spots
from tieword.webs import Web

# Its places have 4, 4, 4, 3, 3, 3 and 3 ties: a row of three lies in it in 60 ways, and with two places more in 720.
IN_720 = Web(["a"] * 7, both_ways([(0, 1), (0, 2), (1, 2), (0, 3), (0, 4), (1, 5), (1, 6), (2, 3), (2, 5), (3, 4),
                                   (4, 6), (5, 6)]))
# Here 4, 4, 4, 4, 3, 3 and 2: 744 of them.
IN_744 = Web(["a"] * 7, both_ways([(0, 1), (0, 2), (1, 2), (0, 3), (0, 4), (1, 5), (1, 3), (2, 3), (2, 5), (3, 4),
                                   (4, 6), (5, 6)]))
ROW_AND_TWO = Web(["a"] * 5, both_ways([(0, 1), (1, 2)]))


def cases(seed, many):
    """Pairs of webs, the first of which often lies in the second."""
    source = random.Random(seed)
    found = []
    for great in random_webs(seed, many, 6):
        for size in range(1, min(4, great.size()) + 1):
            found.append((within(source, great, size)[0], great))
    for small, great in itertools.product(random_webs(seed + 1, 8, 3), random_webs(seed + 2, 8, 5)):
        found.append((small, great))
    named = named_webs()
    for small, great in itertools.product(named.values(), (named["ties manifold"], named["ring of six"])):
        found.append((small, great))
    return found


class IsWay(unittest.TestCase):
    def assert_ways(self, small, great, ways, wrong):
        for way in ways:
            self.assertIs(is_way(small, great, way), True, way)
        for way in wrong:
            self.assertIs(is_way(small, great, way), False, way)

    def test_lists_that_are_ways(self):
        great = Web(["a", "b", "a", "b"], both_ways([(0, 1), (1, 2), (2, 3), (3, 0)]))
        self.assert_ways(Web(["a"], []), great, [[0], [2]], [[1], [3]])
        self.assert_ways(Web(["b", "a"], both_ways([(0, 1)])), great, [[1, 0], [1, 2], [3, 0], [3, 2]],
                         [[0, 1], [2, 1], [1, 3], [0, 2]])
        self.assert_ways(great, great, [[0, 1, 2, 3], [2, 1, 0, 3], [0, 3, 2, 1], [2, 3, 0, 1]],
                         [[1, 0, 3, 2], [0, 1, 3, 2], [1, 2, 3, 0]])

    def test_a_place_twice(self):
        self.assert_ways(bare(2), bare(3), [[0, 1], [2, 0]], [[0, 0], [1, 1], [2, 2]])
        self.assert_ways(bare(3), bare(7), [[6, 0, 3]], [[6, 0, 6], [0, 6, 6], [6, 6, 0], [6, 6, 6]])

    def test_below_0_and_too_great(self):
        self.assert_ways(Web(["a"], []), bare(3), [[0], [1], [2]],
                         [[-1], [-2], [-3], [-4], [3], [4], [100], [10 ** 5000], [-10 ** 5000]])
        self.assert_ways(bare(2), bare(3), [], [[0, -1], [-1, 0], [-2, -1], [0, 3], [3, 0], [1, 7], [-3, 1]])
        self.assert_ways(bare(2), bare(1), [], [[0, 1], [0, 0], [0, -1]])

    def test_one_more_and_one_less(self):
        self.assert_ways(bare(2), bare(3), [], [[], [0], [0, 1, 2], [1], [2, 1, 0], [0, 1, 2, 0]])
        self.assert_ways(Web(["a"], []), bare(1), [[0]], [[], [0, 0], [0, 1]])

    def test_another_kind(self):
        self.assert_ways(Web(["a", "b"], []), Web(["b", "a", "aa"], []), [[1, 0]],
                         [[0, 1], [2, 0], [1, 2], [2, 1], [0, 2]])

    def test_a_pair_missing_or_there_too_seldom(self):
        great = Web(["a"] * 3, [(0, 1, 5, False), (0, 1, 5, False), (0, 1, 6, True), (1, 2, 5, False)])
        for ties, ways in (([(0, 1, 5, False)], [[0, 1], [1, 0], [1, 2], [2, 1]]),
                           ([(0, 1, 5, False)] * 2, [[0, 1], [1, 0]]), ([(0, 1, 5, False)] * 3, []),
                           ([(0, 1, 6, False)], []), ([(0, 1, 7, False)], []), ([(0, 1, 5, True)], []),
                           ([(0, 1, 6, True)], [[0, 1]]), ([(1, 0, 6, True)], [[1, 0]]), ([(0, 1, 6, True)] * 2, []),
                           ([(0, 1, 5, False), (0, 1, 5, False), (0, 1, 6, True)], [[0, 1]]),
                           ([(0, 1, 5, False), (0, 1, 5, False), (1, 0, 6, True)], [[1, 0]]),
                           ([(0, 1, 5, False), (0, 1, 7, False)], []), ([(0, 1, 6, True), (1, 0, 6, True)], [])):
            small = Web(["a", "a"], ties)
            wrong = [list(way) for way in itertools.permutations(range(3), 2) if list(way) not in ways]
            self.assert_ways(small, great, ways, wrong)

    def test_a_one_way_tie_the_wrong_way_about(self):
        small, great = Web(["a", "a"], [(0, 1, 5, True)]), Web(["a"] * 3, [(2, 1, 5, True), (1, 0, 5, False)])
        self.assert_ways(small, great, [[2, 1]], [[1, 2], [0, 1], [1, 0], [0, 2], [2, 0]])

    def test_more_ties_and_more_places(self):
        great = Web(["a", "b", "a", "c"], [(0, 1, 5, False), (0, 1, 4, True), (0, 2, 0, False), (1, 0, 5, True),
                                           (2, 1, 5, False), (0, 3, 5, False)])
        self.assert_ways(Web(["a", "b"], [(0, 1, 5, False)]), great, [[0, 1], [2, 1]], [[3, 1], [0, 3], [1, 0]])
        self.assert_ways(Web(["a", "b", "a"], []), great, [[0, 1, 2], [2, 1, 0]], [[0, 1, 3]])

    def test_all_lists(self):
        for small, great in cases(100, 12):
            if small.size() < 4 and great.size() < 6:
                tables = table_of(small), table_of(great)
                for many in range(small.size() + 2):
                    for way in itertools.product(range(-1, great.size() + 1), repeat=many):
                        fit = (many == small.size() and min(way) >= 0 and max(way) < great.size()
                               and len(set(way)) == many and is_way_by_hand(small, great, way, *tables))
                        self.assertIs(is_way(small, great, list(way)), fit, way)


class AllWays(unittest.TestCase):
    def test_by_the_letter(self):
        self.assertEqual(all_ways(Web(["a"], []), Web(["b"], [])), [])
        self.assertEqual(all_ways(Web(["a"], []), Web(["a", "b", "a"], [])), [[0], [2]])
        self.assertEqual(all_ways(bare(2), bare(3)), [[0, 1], [0, 2], [1, 0], [1, 2], [2, 0], [2, 1]])
        self.assertEqual(all_ways(bare(3), bare(2)), [])
        self.assertEqual(all_ways(Web(["a"] * 3, both_ways([(0, 1), (1, 2)])), Web(["a"] * 4, ring(0, 1, 2, 3))),
                         [[0, 1, 2], [0, 3, 2], [1, 0, 3], [1, 2, 3], [2, 1, 0], [2, 3, 0], [3, 0, 1], [3, 2, 1]])
        one_way = Web(["a", "a"], [(0, 1, 3, True)])
        self.assertEqual(all_ways(one_way, Web(["a"] * 3, [(2, 0, 3, True), (0, 1, 3, True)])), [[0, 1], [2, 0]])

    def test_against_all_lists(self):
        many = 0
        for small, great in cases(101, 40):
            ways = ways_by_hand(small, great)
            if len(ways) <= 720:
                told = all_ways(small, great)
                self.assertTrue(told == ways, (small.kinds, small.ties, great.kinds, great.ties))
                many += len(told) > 0
        self.assertGreater(many, 100)

    def test_where_the_small_web_is_the_great_one(self):
        for great in woven_webs(102, 10) + list(named_webs().values()):
            # No tie is left over, so that the ways are the turnings.
            self.assertTrue(all_ways(great, great) == [list(turning) for turning in sorted(turnings_by_hand(great))])

    def test_720_are_told(self):
        told = all_ways(bare(6), bare(6))
        self.assertTrue(told == [list(way) for way in itertools.permutations(range(6))])
        self.assertTrue(all_ways(bare(5), bare(6)) == [list(way) for way in itertools.permutations(range(6), 5)])
        self.assertTrue(all_ways(Web(["a"] * 6 + ["b"], []), Web(["b"] + ["a"] * 6, []))
                        == [list(way) + [0] for way in itertools.permutations(range(1, 7))])
        ways = ways_by_hand(ROW_AND_TWO, IN_720)
        self.assertEqual(len(ways), 720)
        self.assertTrue(all_ways(ROW_AND_TWO, IN_720) == ways)

    def test_more_are_refused(self):
        self.assertEqual(len(ways_by_hand(ROW_AND_TWO, IN_744)), 744)
        for small, great in [(ROW_AND_TWO, IN_744)] + [(bare(size), bare(7)) for size in (4, 5, 6, 7)]:
            for refusal in (TooMany, WebError):
                with self.assertRaises(refusal):
                    all_ways(small, great)

    def test_many_for_alike_webs(self):
        source = random.Random(103)
        for small, great in cases(103, 10):
            if len(ways_by_hand(small, great)) <= 720:
                like = turned_by_hand(small, random_order(source, small.size()))
                other = turned_by_hand(great, random_order(source, great.size()))
                self.assertEqual(len(all_ways(like, other)), len(all_ways(small, great)))


class LiesIn(unittest.TestCase):
    def test_by_the_letter(self):
        self.assertIs(lies_in(Web(["a"], []), Web(["b", "a"], [])), True)
        self.assertIs(lies_in(Web(["a"], []), Web(["b", "aa"], [])), False)
        self.assertIs(lies_in(Web(["a"] * 3, ring(0, 1, 2)), named_webs()["two rings of three"]), True)
        self.assertIs(lies_in(Web(["a"] * 3, ring(0, 1, 2)), named_webs()["ring of six"]), False)
        self.assertIs(lies_in(named_webs()["ring of six"], named_webs()["six, straight across"]), True)
        self.assertIs(lies_in(named_webs()["six, straight across"], named_webs()["ring of six"]), False)

    def test_against_all_lists(self):
        for small, great in cases(104, 40):
            self.assertIs(lies_in(small, great), len(ways_by_hand(small, great)) > 0)

    def test_more_than_720_ways(self):
        for size in (4, 5, 6, 7):
            self.assertIs(lies_in(bare(size), bare(7)), True)
        self.assertIs(lies_in(ROW_AND_TWO, IN_744), True)

    def test_no_way(self):
        self.assertIs(lies_in(bare(7), bare(6)), False)
        self.assertIs(lies_in(Web(["a"] * 7, both_ways([(5, 6)])), bare(7)), False)
        self.assertIs(lies_in(bare(7), Web(["a"] * 6 + ["b"], [])), False)
        self.assertIs(lies_in(bare(7), Web(["b"], [])), False)


class Spots(unittest.TestCase):
    def test_by_the_letter(self):
        self.assertEqual(spots(bare(2), bare(3)), [[0, 1], [0, 2], [1, 2]])
        self.assertEqual(spots(Web(["a"] * 3, both_ways([(0, 1), (1, 2)])), Web(["a"] * 4, ring(0, 1, 2, 3))),
                         [[0, 1, 2], [0, 3, 2], [1, 0, 3], [1, 2, 3]])
        self.assertEqual(spots(Web(["a", "a"], [(0, 1, 3, True)]), Web(["a"] * 3, [(2, 0, 3, True), (0, 1, 3, True)])),
                         [[0, 1], [2, 0]])
        self.assertEqual(spots(Web(["a", "b", "a"], []), Web(["a", "a", "b", "a", "b"], [])),
                         [[0, 2, 1], [0, 2, 3], [0, 4, 1], [0, 4, 3], [1, 2, 3], [1, 4, 3]])
        self.assertEqual(spots(bare(3), bare(2)), [])
        self.assertEqual(spots(Web(["b"], []), bare(2)), [])

    def test_against_all_ways_and_all_turnings(self):
        manifold = 0
        for small, great in cases(105, 40):
            ways, turnings = ways_by_hand(small, great), turnings_by_hand(small)
            if len(ways) <= 720:
                told = spots(small, great)
                self.assertTrue(told == least_by_hand(ways, turnings), (small.ties, great.ties))
                self.assertEqual(len(told) * len(turnings), len(ways))
                manifold += len(told) > 1 and len(turnings) > 1
        self.assertGreater(manifold, 30)

    def test_a_way_behind_a_turning_is_a_way(self):
        for small, great in cases(106, 10):
            for way in ways_by_hand(small, great)[:50]:
                for turning in turnings_by_hand(small):
                    self.assertIs(is_way(small, great, [way[place] for place in turning]), True)
                    self.assertEqual(both(list(turning), way), [way[place] for place in turning])

    def test_turnings_that_do_not_lead_back_to_themselves(self):
        # A turning and the one that leads back are unlike here, so that all of them count, not the few alone.
        circle = Web(["a"] * 5, [(place, (place + 1) % 5, 3, True) for place in range(5)])
        self.assertEqual(spots(circle, circle), [[0, 1, 2, 3, 4]])
        doubled = Web(["a"] * 5, circle.ties + [(place, (place + 2) % 5, 3, True) for place in range(5)])
        self.assertEqual(spots(circle, doubled), least_by_hand(ways_by_hand(circle, doubled), turnings_by_hand(circle)))

    def test_720_ways_and_720_turnings(self):
        self.assertEqual(spots(bare(6), bare(6)), [[0, 1, 2, 3, 4, 5]])
        self.assertEqual(spots(bare(6), bare(3)), [])
        self.assertTrue(spots(ROW_AND_TWO, IN_720)
                        == least_by_hand(ways_by_hand(ROW_AND_TWO, IN_720), turnings_by_hand(ROW_AND_TWO)))
        self.assertEqual(len(spots(ROW_AND_TWO, IN_720)), 180)

    def test_more_than_720_ways_are_refused(self):
        for small, great in ((ROW_AND_TWO, IN_744), (bare(4), bare(7)), (bare(6), bare(7)), (bare(7), bare(7))):
            for refusal in (TooMany, WebError):
                with self.assertRaises(refusal):
                    spots(small, great)

    def test_more_than_720_turnings_are_refused_though_there_is_no_way(self):
        for great in (bare(1), bare(6), Web(["b"] * 7, []), Web(["a"] * 6 + ["b"], [])):
            self.assertEqual(all_ways(bare(7), great), [])
            with self.assertRaises(TooMany):
                spots(bare(7), great)

    def test_as_many_for_alike_webs(self):
        source = random.Random(107)
        for small, great in cases(107, 10):
            if len(ways_by_hand(small, great)) <= 720:
                like = turned_by_hand(small, random_order(source, small.size()))
                other = turned_by_hand(great, random_order(source, great.size()))
                self.assertEqual(len(spots(like, other)), len(spots(small, great)))

    def test_so_many_of_so_many(self):
        for size in range(1, 8):
            for more in range(size, 8):
                if math.perm(more, size) <= 720:
                    self.assertEqual(spots(bare(size), bare(more)),
                                     [list(way) for way in itertools.combinations(range(more), size)])


class NothingKeptOrChanged(unittest.TestCase):
    def test_nothing_handed_in_is_changed(self):
        for small, great in cases(108, 4):
            before = [list(each) for each in (small.kinds, small.ties, great.kinds, great.ties)]
            way = list(range(small.size()))
            is_way(small, great, way)
            lies_in(small, great)
            if len(ways_by_hand(small, great)) <= 720:
                all_ways(small, great)
                spots(small, great)
            self.assertEqual(way, list(range(small.size())))
            self.assertEqual([small.kinds, small.ties, great.kinds, great.ties], before)

    def test_lists_told_are_the_askers_own(self):
        small, great = Web(["a"] * 3, both_ways([(0, 1), (1, 2)])), Web(["a"] * 4, ring(0, 1, 2, 3))
        for ask in (all_ways, spots):
            told = ask(small, great)
            copies = [list(way) for way in told]
            for at, way in enumerate(told):
                way.append(9)
                self.assertEqual(told[at + 1:], copies[at + 1:])
            told.clear()
            self.assertEqual(ask(small, great), copies)


if __name__ == "__main__":
    unittest.main()
