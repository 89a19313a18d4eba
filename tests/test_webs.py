import itertools
import random
import unittest

from tests.helping import (bare, both_ways, is_alike_by_hand, named_webs, pairs_between, random_order, random_webs,
                           ring, turned_by_hand)
from tieword.errors import BadOrder, BadPlace, BadTie, TooGreat, WebError
from tieword.webs import Web, is_pairing, parts_of, turned

TIE = (0, 1, 0, False)


class Refused(unittest.TestCase):
    def refused(self, refusal, kinds, ties):
        with self.subTest(kinds=kinds, ties=[[hex(each) for each in tie] for tie in ties]):
            with self.assertRaises(refusal):
                Web(kinds, ties)
            with self.assertRaises(WebError):
                Web(kinds, ties)
            with self.assertRaises(ValueError):
                Web(kinds, ties)

    def test_number_of_places(self):
        for size in range(1, 8):
            self.assertEqual(Web(["a"] * size, []).size(), size)
        for size in (0, 8, 9, 20):
            self.refused(TooGreat, ["a"] * size, [])

    def test_number_of_ties(self):
        self.assertEqual(len(Web(["a", "a"], [TIE] * 12).ties), 12)
        self.assertEqual(len(Web(["a"] * 7, [TIE] * 11 + [(5, 6, 0, True)]).ties), 12)
        for many in (13, 14, 40):
            self.refused(TooGreat, ["a", "a"], [TIE] * many)

    def test_kinds_of_places(self):
        for kind in ("a", "z", "az", "aa", "abc", "zzz", "mno"):
            self.assertEqual(Web([kind], []).kinds, [kind])
        wrong = ("", "abcd", "zzzzz", "A", "Z", "aB", "Abc", "1", "a1", "a1b", " ", "a ", " a", "a\n", "`", "{", "a{",
                 "`a", "a-b", "_", "\u00e9", "a\u00df", "\u03b1", "\u00aa")
        for kind in wrong:
            self.refused(BadPlace, [kind], [])
            self.refused(BadPlace, ["a"] * 6 + [kind], [])
            self.refused(BadPlace, [kind] + ["a"] * 6, [])

    def test_kinds_of_ties(self):
        for kind in (0, 1, 10 ** 29, 10 ** 30 - 1):
            for oneway in (False, True):
                self.assertEqual(Web(["a", "b"], [(0, 1, kind, oneway)]).ties, [(0, 1, kind, oneway)])
        for kind in (-1, -5, -10 ** 30, 10 ** 30, 10 ** 30 + 1, 10 ** 31):
            for oneway in (False, True):
                self.refused(BadTie, ["a", "b"], [(0, 1, kind, oneway)])
                self.refused(BadTie, ["a", "b"], [TIE, TIE, (1, 0, kind, oneway)])

    def test_places_of_ties(self):
        for size in (1, 2, 6):
            for oneway in (False, True):
                for number in (-1, -size, size, size + 1, 7):
                    self.refused(BadTie, ["a"] * size, [(0, number, 0, oneway)])
                    self.refused(BadTie, ["a"] * size, [(number, 0, 0, oneway)])
                for place in range(size):
                    self.refused(BadTie, ["a"] * size, [(place, place, 0, oneway)])
        self.refused(BadTie, ["a"] * 3, [TIE] * 11 + [(2, 2, 0, False)])
        self.refused(BadTie, ["a"] * 3, [(3, 4, 0, False)])
        self.refused(BadTie, ["a"] * 3, [(-2, -1, 0, False)])
        self.refused(BadTie, ["a"] * 3, [(3, 3, 10 ** 30, False)])

    def test_numbers_of_thousands_of_figures(self):
        # Python refuses to write such a number, so no refusal may try to show it.
        for great in (10 ** 5000, -10 ** 5000):
            for oneway in (False, True):
                self.refused(BadTie, ["a", "b"], [(0, 1, great, oneway)])
                self.refused(BadTie, ["a", "b"], [(great, 1, 0, oneway)])
                self.refused(BadTie, ["a", "b"], [(0, great, 0, oneway)])

    def test_first_that_is_due(self):
        loop = (0, 0, 0, False)
        self.refused(TooGreat, [], [loop])
        self.refused(TooGreat, [], [loop] * 13)
        self.refused(TooGreat, ["A"] * 8, [])
        self.refused(TooGreat, ["a"] * 8, [loop])
        self.refused(TooGreat, ["A"] * 8, [loop])
        self.refused(TooGreat, ["A", "a"], [TIE] * 13)
        self.refused(TooGreat, ["a", "a"], [loop] * 13)
        self.refused(TooGreat, ["A", ""], [loop] * 13)
        self.refused(BadPlace, ["a", "A"], [loop])
        self.refused(BadPlace, ["A", "a"], [(0, 5, 0, False)])
        self.refused(BadPlace, ["a", ""], [(0, 1, -1, False)])
        self.refused(BadPlace, ["a", "abcd"], [(0, 1, 10 ** 30, True)] * 12)


class Fields(unittest.TestCase):
    def test_kinds_and_size(self):
        web = Web(["b", "a", "abc", "a"], [])
        self.assertEqual(web.kinds, ["b", "a", "abc", "a"])
        self.assertEqual(web.ties, [])
        self.assertEqual(web.size(), 4)
        self.assertIsInstance(web.kinds, list)
        self.assertIsInstance(web.ties, list)

    def test_lesser_place_first_where_both_ways(self):
        self.assertEqual(Web(["a"] * 3, [(2, 1, 4, False)]).ties, [(1, 2, 4, False)])
        self.assertEqual(Web(["a"] * 3, [(1, 2, 4, False)]).ties, [(1, 2, 4, False)])

    def test_one_way_stays_as_handed_in(self):
        self.assertEqual(Web(["a"] * 3, [(2, 1, 4, True)]).ties, [(2, 1, 4, True)])
        self.assertEqual(Web(["a"] * 3, [(1, 2, 4, True)]).ties, [(1, 2, 4, True)])

    def test_rising_order(self):
        ties = [(2, 0, 1, True), (2, 1, 10, False), (1, 2, 9, True), (0, 1, 5, True), (1, 0, 5, False),
                (2, 0, 3, False), (1, 0, 5, True), (1, 2, 9, False), (0, 1, 5, False)]
        told = [(0, 1, 5, False), (0, 1, 5, False), (0, 1, 5, True), (0, 2, 3, False), (1, 0, 5, True),
                (1, 2, 9, False), (1, 2, 9, True), (1, 2, 10, False), (2, 0, 1, True)]
        source = random.Random(1)
        for again in range(20):
            web = Web(["a"] * 3, ties)
            self.assertEqual(web.ties, told)
            self.assertEqual([tie[3] for tie in web.ties], [tie[3] for tie in told])
            source.shuffle(ties)

    def test_lists_handed_in_are_neither_kept_nor_changed(self):
        kinds = ["b", "a", "a"]
        ties = [(2, 1, 4, False), (1, 0, 3, True)]
        web = Web(kinds, ties)
        self.assertEqual(kinds, ["b", "a", "a"])
        self.assertEqual(ties, [(2, 1, 4, False), (1, 0, 3, True)])
        kinds[0] = "z"
        kinds.append("q")
        ties.clear()
        self.assertEqual(web.kinds, ["b", "a", "a"])
        self.assertEqual(web.ties, [(1, 0, 3, True), (1, 2, 4, False)])
        self.assertEqual(web.size(), 3)
        self.assertEqual(web.between(1, 2), ((4, 0),))
        self.assertEqual(web.near(1), [0, 2])

    def test_lists_without_ties_are_not_kept_either(self):
        kinds, ties = ["a", "a"], []
        web = Web(kinds, ties)
        ties.append(TIE)
        kinds.pop()
        self.assertEqual((web.kinds, web.ties, web.between(0, 1), web.near(0)), (["a", "a"], [], (), []))

    def test_webs_share_nothing(self):
        kinds, ties = ["a", "b"], [TIE]
        one, other = Web(kinds, ties), Web(kinds, ties)
        self.assertIsNot(one.kinds, other.kinds)
        self.assertIsNot(one.ties, other.ties)


class BetweenAndNear(unittest.TestCase):
    def test_leads(self):
        web = Web(["a"] * 3, [(1, 0, 7, False), (2, 1, 8, True)])
        self.assertEqual(web.between(0, 1), ((7, 0),))
        self.assertEqual(web.between(1, 0), ((7, 0),))
        self.assertEqual(web.between(2, 1), ((8, 1),))
        self.assertEqual(web.between(1, 2), ((8, 2),))
        self.assertEqual(web.between(0, 2), ())
        self.assertEqual(web.between(2, 0), ())

    def test_several_ties_rising_and_alike_in_all(self):
        web = Web(["a", "a"], [(0, 1, 10, False), (1, 0, 5, True), (0, 1, 5, True), (1, 0, 9, False), (0, 1, 5, False),
                               (1, 0, 5, True), (0, 1, 9, False)])
        self.assertEqual(web.between(0, 1), ((5, 0), (5, 1), (5, 2), (5, 2), (9, 0), (9, 0), (10, 0)))
        self.assertEqual(web.between(1, 0), ((5, 0), (5, 1), (5, 1), (5, 2), (9, 0), (9, 0), (10, 0)))

    def test_near_each_once_whichever_way(self):
        web = Web(["a"] * 5, [(3, 2, 0, True), (2, 3, 0, True), (3, 2, 4, False), (0, 2, 0, True), (2, 4, 1, False)])
        self.assertEqual(web.near(2), [0, 3, 4])
        self.assertEqual(web.near(3), [2])
        self.assertEqual(web.near(0), [2])
        self.assertEqual(web.near(4), [2])
        self.assertEqual(web.near(1), [])

    def test_near_told_is_the_askers_own(self):
        web = Web(["a"] * 3, both_ways([(0, 1), (0, 2)]))
        web.near(0).append(9)
        web.near(0).clear()
        self.assertEqual(web.near(0), [1, 2])
        self.assertEqual(web.between(0, 1), ((0, 0),))

    def test_of_many_webs(self):
        for web in random_webs(2, 60):
            size = web.size()
            for one in range(size):
                near = [other for other in range(size) if other != one and pairs_between(web, one, other)]
                self.assertEqual(web.near(one), near)
                for other in range(size):
                    if other != one:
                        self.assertEqual(web.between(one, other), pairs_between(web, one, other))
                        self.assertIsInstance(web.between(one, other), tuple)


def wrong_orders(size):
    straight = list(range(size))
    wrong = [straight[:-1], straight + [size], straight + [0], straight[1:] + [size], straight[:-1] + [-1],
             [place + 1 for place in straight], [place - 1 for place in straight], [-1 - place for place in straight]]
    if size > 1:
        wrong += [[], [0] * size, straight[:-1] + [0], [1] + straight[1:], straight[1:], straight * 2]
    return wrong


class Turned(unittest.TestCase):
    def test_place_k_is_order_k(self):
        web = Web(["a", "b", "c"], [(0, 1, 5, True), (2, 1, 6, False), (2, 0, 7, True)])
        like = turned(web, [1, 2, 0])
        self.assertEqual(like.kinds, ["b", "c", "a"])
        self.assertEqual(like.ties, [(0, 1, 6, False), (1, 2, 7, True), (2, 0, 5, True)])

    def test_all_orders(self):
        for web in random_webs(3, 25, 4) + [named_webs()["one-way ring of five"]]:
            kinds, ties = list(web.kinds), list(web.ties)
            size = web.size()
            for order in itertools.permutations(range(size)):
                order = list(order)
                like = turned(web, order)
                self.assertIsInstance(like, Web)
                self.assertEqual(like.kinds, [kinds[place] for place in order])
                self.assertEqual(len(like.ties), len(ties))
                for i in range(size):
                    for j in range(size):
                        if i != j:
                            self.assertEqual(like.between(i, j), web.between(order[i], order[j]))
            self.assertEqual((web.kinds, web.ties), (kinds, ties))

    def test_straight_order_tells_the_same_but_another_web(self):
        web = Web(["b", "a"], [(1, 0, 5, True)])
        like = turned(web, [0, 1])
        self.assertEqual((like.kinds, like.ties), (web.kinds, web.ties))
        self.assertIsNot(like.kinds, web.kinds)
        self.assertIsNot(like.ties, web.ties)

    def test_order_is_neither_changed_nor_kept(self):
        web = Web(["a", "b", "c"], [(0, 1, 5, True)])
        order = [2, 0, 1]
        like = turned(web, order)
        self.assertEqual(order, [2, 0, 1])
        order.clear()
        self.assertEqual((like.kinds, like.ties, like.size()), (["c", "a", "b"], [(1, 2, 5, True)], 3))

    def test_numbers_of_thousands_of_figures(self):
        for great in (10 ** 5000, -10 ** 5000):
            with self.assertRaises(BadOrder):
                turned(bare(2), [0, great])
            self.assertIs(is_pairing(bare(2), bare(2), [0, great]), False)

    def test_refuses_what_is_no_order(self):
        for size in (1, 2, 3, 7):
            web = bare(size)
            for order in wrong_orders(size):
                with self.subTest(size=size, order=order):
                    with self.assertRaises(BadOrder):
                        turned(web, order)
                    with self.assertRaises(WebError):
                        turned(web, order)


class Pairings(unittest.TestCase):
    def test_the_one_turned_is_the_other(self):
        one = Web(["a", "b", "b"], [(0, 1, 5, True), (1, 2, 6, True)])
        other = turned_by_hand(one, [1, 2, 0])
        self.assertIs(is_pairing(one, other, [1, 2, 0]), True)
        self.assertIs(is_pairing(one, other, [2, 0, 1]), False)
        self.assertIs(is_pairing(other, one, [2, 0, 1]), True)
        self.assertIs(is_pairing(other, one, [1, 2, 0]), False)

    def test_all_orders(self):
        source = random.Random(4)
        for web in random_webs(4, 30, 4):
            other = turned_by_hand(web, random_order(source, web.size()))
            for order in itertools.permutations(range(web.size())):
                like = turned_by_hand(web, order)
                same = like.kinds == other.kinds and like.ties == other.ties
                self.assertIs(is_pairing(web, other, list(order)), same)

    def test_kinds_ties_and_leads_count(self):
        web = Web(["a", "a"], [(0, 1, 5, True)])
        self.assertIs(is_pairing(web, Web(["a", "b"], [(0, 1, 5, True)]), [0, 1]), False)
        self.assertIs(is_pairing(web, Web(["a", "a"], [(0, 1, 6, True)]), [0, 1]), False)
        self.assertIs(is_pairing(web, Web(["a", "a"], [(0, 1, 5, False)]), [0, 1]), False)
        self.assertIs(is_pairing(web, Web(["a", "a"], [(1, 0, 5, True)]), [0, 1]), False)
        self.assertIs(is_pairing(web, Web(["a", "a"], [(1, 0, 5, True)]), [1, 0]), True)
        self.assertIs(is_pairing(web, Web(["a", "a"], [(0, 1, 5, True)] * 2), [0, 1]), False)
        self.assertIs(is_pairing(web, bare(2), [0, 1]), False)
        self.assertIs(is_pairing(bare(2), web, [0, 1]), False)

    def test_webs_of_unlike_size(self):
        self.assertIs(is_pairing(bare(2), bare(3), [0, 1]), False)
        self.assertIs(is_pairing(bare(2), bare(3), [0, 1, 2]), False)
        self.assertIs(is_pairing(bare(3), bare(2), [0, 1]), False)
        self.assertIs(is_pairing(bare(3), bare(2), [0, 1, 2]), False)

    def test_no_order_is_no_pairing(self):
        for size in (1, 2, 3, 7):
            for order in wrong_orders(size):
                with self.subTest(size=size, order=order):
                    self.assertIs(is_pairing(bare(size), bare(size), order), False)

    def test_nothing_handed_in_is_changed(self):
        one, other, order = Web(["b", "a"], [(1, 0, 5, True)]), Web(["a", "b"], [(0, 1, 5, True)]), [1, 0]
        self.assertIs(is_pairing(one, other, order), True)
        self.assertEqual(order, [1, 0])
        self.assertEqual((one.kinds, one.ties, other.kinds, other.ties),
                         (["b", "a"], [(1, 0, 5, True)], ["a", "b"], [(0, 1, 5, True)]))

    def test_alike_just_where_some_order_pairs(self):
        webs = random_webs(5, 40, 3)
        for one, other in itertools.combinations(webs, 2):
            orders = itertools.permutations(range(one.size()))
            self.assertEqual(any(is_pairing(one, other, list(order)) for order in orders),
                             is_alike_by_hand(one, other))


class Parts(unittest.TestCase):
    def test_one_part(self):
        self.assertEqual(parts_of(Web(["a"], [])), [[0]])
        self.assertEqual(parts_of(Web(["a"] * 7, both_ways([(6, 0), (0, 5), (5, 1), (1, 4), (4, 2), (2, 3)]))),
                         [[0, 1, 2, 3, 4, 5, 6]])

    def test_several_in_the_order_of_their_first_places(self):
        self.assertEqual(parts_of(Web(["a"] * 7, ring(6, 1, 4) + ring(5, 0))), [[0, 5], [1, 4, 6], [2], [3]])
        self.assertEqual(parts_of(Web(["b", "a", "b", "a"], both_ways([(0, 3), (1, 2)]))), [[0, 3], [1, 2]])
        self.assertEqual(parts_of(bare(7)), [[0], [1], [2], [3], [4], [5], [6]])

    def test_one_way_ties_join_whichever_way(self):
        self.assertEqual(parts_of(Web(["a"] * 3, [(2, 0, 0, True), (2, 1, 0, True)])), [[0, 1, 2]])
        self.assertEqual(parts_of(Web(["a"] * 3, [(0, 2, 0, True), (1, 2, 0, True)])), [[0, 1, 2]])
        self.assertEqual(parts_of(Web(["a"] * 4, [(3, 1, 0, True)])), [[0], [1, 3], [2]])

    def test_of_many_webs(self):
        for web in random_webs(6, 80):
            colour = list(range(web.size()))
            for one, other, kind, oneway in web.ties:
                colour = [colour[one] if value == colour[other] else value for value in colour]
            parts = [[place for place in range(web.size()) if colour[place] == value]
                     for value in dict.fromkeys(colour)]
            self.assertEqual(parts_of(web), parts)

    def test_lists_told_are_the_askers_own(self):
        web = Web(["a"] * 3, both_ways([(0, 2)]))
        told = parts_of(web)
        told[0].append(7)
        told.pop()
        self.assertEqual(parts_of(web), [[0, 2], [1]])
        self.assertEqual((web.near(0), web.kinds, web.ties), ([2], ["a"] * 3, [(0, 2, 0, False)]))


if __name__ == "__main__":
    unittest.main()
