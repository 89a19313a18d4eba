import itertools
import math
import random
import unittest

from tests.helping import (bare, both_ways, is_turning_by_hand, made_by_hand, named_webs, orbits_by_hand, random_order,
                           random_webs, ring, table_of, turned_by_hand, turnings_by_hand, woven_webs)
from tieword.errors import TooMany, WebError
from tieword.groups import all_turnings, count_turnings, few_turnings, orbits
from tieword.search import searched
from tieword.turnings import made_of
from tieword.webs import Web


def star(size):
    return Web(["a"] * size, both_ways([(0, place) for place in range(1, size)]))


def great_webs():
    """Webs with more than 720 turnings, and how many they have."""
    return [(bare(7), 5040), (turned_by_hand(Web(["a"] * 7, []), [6, 5, 4, 3, 2, 1, 0]), 5040),
            (Web(["zz"] * 7, []), 5040)]


def webs_to_try(seed, many=60):
    return list(named_webs().values()) + random_webs(seed, many) + woven_webs(seed, 15)


def webs_with_few(seed, many=60):
    """Webs whose turnings are not too many to be told."""
    return [web for web in webs_to_try(seed, many) if len(turnings_by_hand(web)) <= 720]


class Few(unittest.TestCase):
    def test_they_are_those_of_searched(self):
        for web in webs_to_try(50, 20):
            self.assertEqual(few_turnings(web), searched(web)[2])

    def test_they_make_all(self):
        for web in webs_to_try(51) + [web for web, many in great_webs()]:
            few = few_turnings(web)
            table = table_of(web)
            self.assertIsInstance(few, list)
            self.assertLess(len(few), web.size())
            for turning in few:
                self.assertIsInstance(turning, list)
                self.assertNotEqual(turning, list(range(web.size())))
                self.assertTrue(is_turning_by_hand(web, turning, table))
            self.assertEqual(made_by_hand(web.size(), few), turnings_by_hand(web))

    def test_none(self):
        self.assertEqual(few_turnings(Web(["a"], [])), [])
        self.assertEqual(few_turnings(Web(["a", "b"], [])), [])
        self.assertEqual(few_turnings(Web(["a", "a"], [(0, 1, 0, True)])), [])


class All(unittest.TestCase):
    def test_by_the_letter(self):
        self.assertEqual(all_turnings(Web(["a"], [])), [[0]])
        self.assertEqual(all_turnings(Web(["a", "b"], [])), [[0, 1]])
        self.assertEqual(all_turnings(bare(2)), [[0, 1], [1, 0]])
        self.assertEqual(all_turnings(Web(["a"] * 3, both_ways([(1, 0), (1, 2)]))), [[0, 1, 2], [2, 1, 0]])
        self.assertEqual(all_turnings(Web(["a"] * 3, [(0, 1, 0, True), (1, 2, 0, True), (2, 0, 0, True)])),
                         [[0, 1, 2], [1, 2, 0], [2, 0, 1]])
        self.assertEqual(all_turnings(Web(["a"] * 4, ring(0, 1, 2, 3))),
                         [[0, 1, 2, 3], [0, 3, 2, 1], [1, 0, 3, 2], [1, 2, 3, 0], [2, 1, 0, 3], [2, 3, 0, 1],
                          [3, 0, 1, 2], [3, 2, 1, 0]])

    def test_against_all_orders(self):
        for web in webs_with_few(52):
            # Not by assertEqual, which takes minutes to show how two great lists are unlike.
            self.assertTrue(all_turnings(web) == [list(turning) for turning in sorted(turnings_by_hand(web))], web.ties)

    def test_all_are_made_of_the_few(self):
        for web in webs_with_few(53, 20):
            self.assertTrue(all_turnings(web) == made_of(web.size(), few_turnings(web)), web.ties)

    def test_720_are_told(self):
        self.assertTrue(all_turnings(bare(6)) == [list(order) for order in itertools.permutations(range(6))])
        told = all_turnings(star(7))
        self.assertTrue(told == [[0] + list(order) for order in itertools.permutations(range(1, 7))])

    def test_more_are_refused(self):
        for web, many in great_webs():
            for refusal in (TooMany, WebError):
                with self.assertRaises(refusal):
                    all_turnings(web)


class Count(unittest.TestCase):
    def test_by_the_letter(self):
        self.assertEqual(count_turnings(Web(["a"], [])), 1)
        self.assertEqual(count_turnings(Web(["a", "b", "c"], both_ways([(0, 1)]))), 1)
        self.assertEqual(count_turnings(Web(["a"] * 2, [(0, 1, 4, True)])), 1)
        self.assertEqual(count_turnings(Web(["a", "b", "a", "b", "a"], [])), 12)
        for size in range(1, 8):
            self.assertEqual(count_turnings(bare(size)), math.factorial(size))

    def test_rings_stars_and_pairs(self):
        for size in range(3, 8):
            self.assertEqual(count_turnings(Web(["a"] * size, ring(*range(size)))), 2 * size)
            circle = Web(["a"] * size, [(place, (place + 1) % size, 3, True) for place in range(size)])
            self.assertEqual(count_turnings(circle), size)
            self.assertEqual(count_turnings(star(size)), math.factorial(size - 1))
        self.assertEqual(count_turnings(Web(["a"] * 6, both_ways([(0, 3), (1, 5), (4, 2)]))), 48)
        self.assertEqual(count_turnings(Web(["a"] * 7, both_ways([(0, 3), (1, 5), (4, 2)]))), 48)
        self.assertEqual(count_turnings(Web(["a"] * 6, [(0, 3, 0, True), (1, 5, 0, True), (4, 2, 0, True)])), 6)

    def test_whatever_it_is(self):
        for web, many in great_webs():
            self.assertEqual(count_turnings(web), many)

    def test_against_all_orders(self):
        for web in webs_to_try(54):
            self.assertEqual(count_turnings(web), len(turnings_by_hand(web)))

    def test_same_for_alike_webs(self):
        source = random.Random(55)
        for web in webs_to_try(55, 20):
            like = turned_by_hand(web, random_order(source, web.size()))
            self.assertEqual(count_turnings(like), count_turnings(web))


class Orbits(unittest.TestCase):
    def test_by_the_letter(self):
        self.assertEqual(orbits(Web(["a"], [])), [[0]])
        self.assertEqual(orbits(Web(["b", "a", "b", "a"], [])), [[0, 2], [1, 3]])
        self.assertEqual(orbits(Web(["a"] * 5, both_ways([(k, k + 1) for k in range(4)]))), [[0, 4], [1, 3], [2]])
        self.assertEqual(orbits(Web(["a"] * 7, ring(0, 2, 4) + ring(1, 5, 3, 6))), [[0, 2, 4], [1, 3, 5, 6]])
        self.assertEqual(orbits(Web(["a"] * 3, [(0, 1, 0, True), (1, 2, 0, True)])), [[0], [1], [2]])

    def test_of_many_webs(self):
        for web in webs_to_try(56):
            self.assertEqual(orbits(web), orbits_by_hand(web))

    def test_where_the_turnings_are_too_many_to_be_told(self):
        for web, many in great_webs():
            self.assertEqual(orbits(web), [[0, 1, 2, 3, 4, 5, 6]])

    def test_places_that_look_alike_and_are_not(self):
        # Each place of it has two ties, but no turning leads from one ring to the other.
        self.assertEqual(orbits(named_webs()["rings of three and four"]), [[0, 1, 2], [3, 4, 5, 6]])

    def test_same_for_alike_webs(self):
        source = random.Random(57)
        for web in webs_to_try(57, 20):
            order = random_order(source, web.size())
            like = turned_by_hand(web, order)
            led_back = sorted(sorted(order[place] for place in orbit) for orbit in orbits(like))
            self.assertEqual(led_back, orbits(web))


class NothingKeptOrChanged(unittest.TestCase):
    def test_webs_are_left_as_they_were(self):
        for web in webs_with_few(58, 10):
            kinds, ties = list(web.kinds), list(web.ties)
            few_turnings(web)
            all_turnings(web)
            count_turnings(web)
            orbits(web)
            self.assertEqual((web.kinds, web.ties), (kinds, ties))

    def test_lists_told_are_the_askers_own(self):
        for ask in (few_turnings, all_turnings, orbits):
            for web in webs_with_few(59, 10):
                told = ask(web)
                copies = [list(each) for each in told]
                for at, each in enumerate(told):
                    each.append(9)
                    self.assertTrue(told[at + 1:] == copies[at + 1:])
                told.clear()
                self.assertTrue(ask(web) == copies)
                self.assertEqual(count_turnings(web), len(all_turnings(web)))


if __name__ == "__main__":
    unittest.main()
