import itertools
import random
import unittest
from unittest import mock

from tests.helping import (bare, both_ways, chosen_by_hand, ends_by_hand, is_alike_by_hand, is_turning_by_hand,
                           made_by_hand, named_webs, open_by_hand, random_order, random_webs, ranks_by_hand, ring,
                           row_by_hand, settled_by_hand, table_of, turned_by_hand, turnings_by_hand, woven_webs)
from tieword.search import least_order, least_row, row_of, searched
from tieword.webs import Web, parts_of


def many_webs(seed, many=60):
    return list(named_webs().values()) + random_webs(seed, many)


def knotted(source, size, many):
    """A web of one kind of places and few kinds of ties: its ways have many unlike ends."""
    pairs = source.sample(list(itertools.combinations(range(size), 2)), many)
    return Web(["a"] * size, both_ways(pairs))


class Rows(unittest.TestCase):
    def test_by_the_letter(self):
        web = Web(["a", "b", "a"], [(0, 1, 5, True), (1, 2, 6, False), (2, 1, 4, False)])
        self.assertEqual(row_of(web, [0, 1, 2]), (("a", "b", "a"), (((5, 1),), (), ((4, 0), (6, 0)))))
        self.assertEqual(row_of(web, [1, 2, 0]), (("b", "a", "a"), (((4, 0), (6, 0)), ((5, 2),), ())))
        self.assertEqual(row_of(Web(["zz"], []), [0]), (("zz",), ()))

    def test_by_rising_first_and_then_second_place(self):
        web = Web(["a"] * 4, [(one, other, 10 * one + other, True)
                              for one, other in itertools.combinations(range(4), 2)])
        self.assertEqual(row_of(web, [0, 1, 2, 3])[1],
                         (((1, 1),), ((2, 1),), ((3, 1),), ((12, 1),), ((13, 1),), ((23, 1),)))
        self.assertEqual(row_of(web, [3, 2, 1, 0])[1],
                         (((23, 2),), ((13, 2),), ((3, 2),), ((12, 2),), ((2, 2),), ((1, 2),)))

    def test_same_just_where_the_turned_webs_are_the_same(self):
        source = random.Random(20)
        for web in many_webs(20, 40):
            kept = [random_order(source, web.size()) for again in range(12)]
            for one, other in itertools.combinations(kept, 2):
                left, right = turned_by_hand(web, one), turned_by_hand(web, other)
                same = left.kinds == right.kinds and left.ties == right.ties
                self.assertEqual(row_of(web, one) == row_of(web, other), same)
                self.assertEqual(row_of(web, one), row_by_hand(web, one))


class LeastRows(unittest.TestCase):
    def assert_least(self, web):
        least = min(row_by_hand(web, end) for end in ends_by_hand(web))
        order = least_order(web)
        self.assertEqual(sorted(order), list(range(web.size())))
        self.assertEqual(row_by_hand(web, order), least)
        self.assertEqual(least_row(web), least)
        self.assertEqual(row_by_hand(web, searched(web)[1]), least)

    def test_by_the_letter(self):
        self.assertEqual(least_order(Web(["q"], [])), [0])
        self.assertEqual(least_row(Web(["q"], [])), (("q",), ()))
        web = Web(["b", "a", "ab"], [(0, 1, 5, True)])
        self.assertEqual(least_order(web), [1, 2, 0])
        self.assertEqual(least_row(web), (("a", "ab", "b"), ((), ((5, 2),), ())))
        self.assertEqual(least_row(bare(7)), (("a",) * 7, ((),) * 21))

    def test_least_of_all_ends(self):
        for web in many_webs(21):
            self.assert_least(web)

    def test_least_of_all_ends_where_many_are_unlike(self):
        source = random.Random(22)
        for again in range(30):
            self.assert_least(knotted(source, 6, source.choice([3, 6, 9])))
            self.assert_least(knotted(source, 7, 7))

    def test_least_of_many_unlike_ends_come_to_in_whatever_order(self):
        most = 0
        for web in woven_webs(32, 60):
            self.assert_least(web)
            most = max(most, len({row_by_hand(web, end) for end in ends_by_hand(web)}))
        self.assertEqual(most, 6)

    def test_least_is_not_always_the_first(self):
        web = named_webs()["rings of three and four"]
        rows = [row_by_hand(web, end) for end in ends_by_hand(web)]
        self.assertNotEqual(min(rows), rows[0])
        self.assertEqual(least_row(web), min(rows))

    def test_least_of_the_ends_alone(self):
        # All ends begin with the pair, which has a tie; orders that begin otherwise have lesser rows.
        web = Web(["a"] * 5, ring(0, 1, 2) + both_ways([(3, 4)]))
        tie = ((0, 0),)
        self.assertEqual(least_row(web), (("a",) * 5, (tie, (), (), (), (), (), (), tie, tie, tie)))
        self.assertLess(row_of(web, [3, 0, 1, 2, 4]), least_row(web))

    def test_same_for_alike_webs(self):
        source = random.Random(24)
        for web in many_webs(24, 80):
            for again in range(3):
                like = turned_by_hand(web, random_order(source, web.size()))
                self.assertEqual(least_row(like), least_row(web))
                self.assertEqual(len(parts_of(like)), len(parts_of(web)))
                self.assertEqual(like.size(), web.size())

    def test_all_turned_webs(self):
        web = named_webs()["six, one across and two aslant"]
        row = least_row(web)
        for order in itertools.permutations(range(6)):
            self.assertEqual(least_row(turned_by_hand(web, order)), row)

    def test_alike_just_when_the_least_rows_are_the_same(self):
        webs = random_webs(25, 70, 4) + list(named_webs().values())
        rows = [least_row(web) for web in webs]
        for one, other in itertools.combinations(range(len(webs)), 2):
            self.assertEqual(rows[one] == rows[other], is_alike_by_hand(webs[one], webs[other]))

    def test_all_webs_of_three_places_and_few_ties(self):
        ties = [(one, other, 0, oneway) for one, other in itertools.permutations(range(3), 2)
                for oneway in (False, True) if oneway or one < other]
        webs = [Web(["a"] * 3, picked) for many in range(4)
                for picked in itertools.combinations_with_replacement(ties, many)]
        kinds_of_rows = {least_row(web) for web in webs}
        unlike = []
        for web in webs:
            if not any(is_alike_by_hand(web, other) for other in unlike):
                unlike.append(web)
        self.assertEqual(len(kinds_of_rows), len(unlike))

    def test_unlike_where_places_look_alike(self):
        webs = named_webs()
        for one, other in (("six, straight across", "six, one across and two aslant"),
                           ("two rings of three", "ring of six"), ("rings of three and four", "ring of seven")):
            self.assertNotEqual(least_row(webs[one]), least_row(webs[other]))
        self.assertEqual(least_row(webs["rings of three and four"]),
                         least_row(webs["rings of three and four, mixed"]))


class Searched(unittest.TestCase):
    def assert_turnings(self, web, turnings, all_turnings):
        table = table_of(web)
        straight = list(range(web.size()))
        self.assertIsInstance(turnings, list)
        self.assertLessEqual(len(turnings), web.size() - 1)
        for turning in turnings:
            self.assertIsInstance(turning, list)
            self.assertEqual(sorted(turning), straight)
            self.assertNotEqual(turning, straight)
            self.assertTrue(is_turning_by_hand(web, turning, table))
        self.assertEqual(made_by_hand(web.size(), turnings), all_turnings)

    def test_form(self):
        told = searched(Web(["a"], []))
        self.assertIsInstance(told, tuple)
        self.assertEqual(told, ([0], [0], []))
        first, least, turnings = searched(bare(2))
        self.assertEqual(first, [0, 1])
        self.assertEqual(turnings, [[1, 0]])
        self.assertIn(least, ([0, 1], [1, 0]))

    def test_first_takes_the_least_place_each_time(self):
        for web in many_webs(26, 120):
            first = searched(web)[0]
            self.assertIsInstance(first, list)
            self.assertEqual(first, ends_by_hand(web)[0])

    def test_first_by_the_letter(self):
        self.assertEqual(searched(Web(["a"] * 4, ring(0, 1, 2, 3)))[0], [0, 2, 1, 3])
        self.assertEqual(searched(bare(7))[0], [0, 1, 2, 3, 4, 5, 6])

    def test_turnings_make_all(self):
        for web in many_webs(27, 120):
            self.assert_turnings(web, searched(web)[2], turnings_by_hand(web))

    def test_turnings_make_all_where_many_ends_are_unlike(self):
        source = random.Random(28)
        for again in range(40):
            web = knotted(source, 6, source.choice([3, 6, 8, 9]))
            self.assert_turnings(web, searched(web)[2], turnings_by_hand(web))
        for web in woven_webs(33, 40):
            self.assert_turnings(web, searched(web)[2], turnings_by_hand(web))
            self.assertEqual(searched(web)[0], ends_by_hand(web)[0])

    def test_turnings_of_turned_webs(self):
        source = random.Random(29)
        for name, web in sorted(named_webs().items()):
            like = turned_by_hand(web, random_order(source, web.size()))
            self.assert_turnings(like, searched(like)[2], turnings_by_hand(like))

    def test_seven_places_without_ties(self):
        web = bare(7)
        first, least, turnings = searched(web)
        self.assertEqual(len(made_by_hand(7, turnings)), 5040)
        self.assert_turnings(web, turnings, set(itertools.permutations(range(7))))
        self.assertEqual(row_by_hand(web, least), (("a",) * 7, ((),) * 21))

    def test_seven_places_in_parts_and_kinds(self):
        pairs = Web(["a"] * 7, both_ways([(0, 1), (2, 3), (4, 5)]))
        self.assertEqual(len(turnings_by_hand(pairs)), 48)
        self.assert_turnings(pairs, searched(pairs)[2], turnings_by_hand(pairs))
        kinds = Web(["b", "a", "b", "a", "b", "a", "b"], [])
        self.assertEqual(len(turnings_by_hand(kinds)), 144)
        self.assert_turnings(kinds, searched(kinds)[2], turnings_by_hand(kinds))
        star = Web(["a"] * 7, both_ways([(6, k) for k in range(6)]))
        self.assertEqual(len(turnings_by_hand(star)), 720)
        self.assert_turnings(star, searched(star)[2], turnings_by_hand(star))

    def test_web_with_no_turning_but_one(self):
        self.assertEqual(searched(named_webs()["all unlike"])[2], [])
        self.assertEqual(searched(Web(["a"] * 2, [(0, 1, 3, True)]))[2], [])


class SearchByHand:
    """The search by the document's words: which ends it comes to, and in what order."""

    def __init__(self, web):
        self.web = web
        self.table = table_of(web)
        self.ends = []
        self.first_way = []
        self.turnings = []
        # Whether what is left behind the point where the way parted from the first one is left out.
        self.over = False
        self.go([], settled_by_hand(self.table, ranks_by_hand(web.kinds)))

    def left_out(self, way, tried, place):
        fixing = [turning for turning in self.turnings if all(turning[each] == each for each in way)]
        led = set(tried)
        for again in range(len(self.web.kinds)):
            led |= {turning[each] for turning in fixing for each in led}
        return place in led

    def come_to(self, way, parting):
        end = sorted(range(len(parting)), key=parting.__getitem__)
        self.ends.append(end)
        if len(self.ends) == 1:
            self.first_way = way
        elif row_by_hand(self.web, end) == row_by_hand(self.web, self.ends[0]):
            leads = dict(zip(self.ends[0], end))
            self.turnings.append([leads[place] for place in range(len(end))])
            self.over = True

    def go(self, way, parting):
        choices, tried = open_by_hand(parting), []
        if not choices:
            self.come_to(way, parting)
        for place in choices:
            if self.left_out(way, tried, place):
                continue
            tried.append(place)
            self.go(way + [place], chosen_by_hand(self.table, parting, place))
            if self.first_way[:len(way)] == way:
                self.over = False
            elif self.over:
                return


class LeftOut(unittest.TestCase):
    def gone_to(self, web):
        with mock.patch("tieword.search.row_of", wraps=row_of) as asked:
            searched(web)
        return [call.args[1] for call in asked.call_args_list]

    def test_no_end_but_those_that_the_words_leave_is_come_to(self):
        fewer = 0
        for web in many_webs(40) + woven_webs(40, 20):
            by_hand = SearchByHand(web)
            self.assertEqual(self.gone_to(web), by_hand.ends)
            self.assertEqual(searched(web)[2], by_hand.turnings)
            fewer += len(by_hand.ends) < len(ends_by_hand(web))
        self.assertGreater(fewer, 20)

    def test_seven_places(self):
        self.assertEqual(len(self.gone_to(bare(7))), 7)
        webs = named_webs()
        for name in ("rings of three and four", "rings of three and four, mixed", "ring of seven"):
            ends = self.gone_to(webs[name])
            self.assertEqual(ends, SearchByHand(webs[name]).ends)
            self.assertLess(len(ends), 12)


class NothingKeptOrChanged(unittest.TestCase):
    def test_web_and_order_are_left_as_they_were(self):
        for web in many_webs(30, 20):
            kinds, ties, order = list(web.kinds), list(web.ties), list(range(web.size()))
            row_of(web, order)
            searched(web)
            least_order(web)
            least_row(web)
            self.assertEqual((web.kinds, web.ties, order), (kinds, ties, list(range(len(kinds)))))

    def test_lists_told_are_the_askers_own(self):
        for web in many_webs(31, 20):
            told = searched(web)
            copies = (list(told[0]), list(told[1]), [list(turning) for turning in told[2]])
            told[0].append(9)
            self.assertEqual(told[1], copies[1])
            told[1].append(8)
            self.assertEqual(told[2], copies[2])
            for at, turning in enumerate(told[2]):
                turning.append(7)
                self.assertEqual(told[2][at + 1:], copies[2][at + 1:])
            told[2].clear()
            self.assertEqual(told[0], copies[0] + [9])
            self.assertEqual(searched(web), copies)

    def test_least_order_told_is_the_askers_own(self):
        web = bare(3)
        least_order(web).clear()
        self.assertEqual(sorted(least_order(web)), [0, 1, 2])
        order = [2, 1, 0]
        row = row_of(web, order)
        order.clear()
        self.assertEqual(row, (("a",) * 3, ((),) * 3))


if __name__ == "__main__":
    unittest.main()
