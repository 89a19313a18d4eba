import itertools
import random
import unittest

from tests.helping import (bare, both_ways, is_turning_by_hand, made_by_hand, named_webs, random_order, random_webs,
                           ring, table_of)
from tieword.errors import TooMany, WebError
from tieword.turnings import back, both, is_turning, made_of, orbits_of, stay
from tieword.webs import Web


def rising(made):
    return [list(turning) for turning in sorted(made)]


def orbits_by_hand(size, turnings):
    made = made_by_hand(size, turnings)
    orbits = []
    for place in range(size):
        orbit = sorted({turning[place] for turning in made})
        if orbit not in orbits:
            orbits.append(orbit)
    return orbits


def swap(size, one, other):
    turning = list(range(size))
    turning[one], turning[other] = other, one
    return turning


def neighbour_swaps(size):
    return [swap(size, place, place + 1) for place in range(size - 1)]


class IsTurning(unittest.TestCase):
    def test_by_the_letter(self):
        web = Web(["a"] * 4, ring(0, 1, 2, 3))
        for turning in ([0, 1, 2, 3], [1, 2, 3, 0], [3, 2, 1, 0], [0, 3, 2, 1]):
            self.assertIs(is_turning(web, turning), True)
        for turning in ([1, 0, 2, 3], [0, 2, 1, 3], [2, 1, 3, 0]):
            self.assertIs(is_turning(web, turning), False)

    def test_kinds_of_places(self):
        web = Web(["a", "b", "a"], [])
        self.assertIs(is_turning(web, [2, 1, 0]), True)
        self.assertIs(is_turning(web, [1, 0, 2]), False)
        self.assertIs(is_turning(web, [1, 2, 0]), False)

    def test_kinds_and_number_of_ties(self):
        self.assertIs(is_turning(Web(["a"] * 3, [(0, 1, 5, False), (1, 2, 5, False)]), [2, 1, 0]), True)
        self.assertIs(is_turning(Web(["a"] * 3, [(0, 1, 5, False), (1, 2, 6, False)]), [2, 1, 0]), False)
        several = [(0, 1, 5, False), (0, 1, 5, False), (2, 1, 5, False), (1, 2, 5, False)]
        self.assertIs(is_turning(Web(["a"] * 3, several), [2, 1, 0]), True)
        self.assertIs(is_turning(Web(["a"] * 3, several[1:]), [2, 1, 0]), False)
        mixed = [(0, 1, 5, False), (0, 1, 6, True), (2, 1, 6, True), (1, 2, 5, False)]
        self.assertIs(is_turning(Web(["a"] * 3, mixed), [2, 1, 0]), True)

    def test_one_way_ties(self):
        self.assertIs(is_turning(Web(["a"] * 2, [(0, 1, 5, False)]), [1, 0]), True)
        self.assertIs(is_turning(Web(["a"] * 2, [(0, 1, 5, True)]), [1, 0]), False)
        self.assertIs(is_turning(Web(["a"] * 2, [(0, 1, 5, True), (1, 0, 5, True)]), [1, 0]), True)
        self.assertIs(is_turning(Web(["a"] * 2, [(0, 1, 5, True), (1, 0, 6, True)]), [1, 0]), False)
        circle = Web(["a"] * 3, [(0, 1, 0, True), (1, 2, 0, True), (2, 0, 0, True)])
        self.assertIs(is_turning(circle, [1, 2, 0]), True)
        self.assertIs(is_turning(circle, [2, 0, 1]), True)
        self.assertIs(is_turning(circle, [1, 0, 2]), False)

    def test_all_orders(self):
        for web in random_webs(40, 60, 5) + list(named_webs().values()):
            table = table_of(web)
            size = min(web.size(), 6)
            for order in itertools.permutations(range(size)):
                # Of seven places the last one stays, or the orders to look at would be too many.
                order = list(order) + list(range(size, web.size()))
                self.assertIs(is_turning(web, order), is_turning_by_hand(web, order, table))

    def test_lists_that_are_no_orders(self):
        for size in (1, 2, 3, 7):
            straight = list(range(size))
            wrong = [[], straight[:-1], straight[1:], straight + [size], straight + [0], straight[:-1] + [size],
                     straight[:-1] + [-1], [-1] + straight[1:], [size] + straight[1:], straight * 2, [7] * size,
                     [place - 1 for place in straight], [place + 1 for place in straight],
                     [place - size for place in straight], [10 ** 20] + straight[1:]]
            if size > 1:
                wrong += [[0] * size, [1] + straight[1:], straight[:-1] + [0]]
            for turning in wrong:
                with self.subTest(size=size, turning=turning):
                    self.assertIs(is_turning(bare(size), turning), False)

    def test_lists_handed_in_stay(self):
        web, turning = Web(["a"] * 3, [(2, 1, 0, True)]), [0, 2, 1]
        self.assertIs(is_turning(web, turning), False)
        self.assertEqual((web.kinds, web.ties, turning), (["a"] * 3, [(2, 1, 0, True)], [0, 2, 1]))


class StayBothBack(unittest.TestCase):
    def test_stay(self):
        for size in range(1, 8):
            self.assertEqual(stay(size), [place for place in range(size)])
            self.assertIsInstance(stay(size), list)
            self.assertIs(is_turning(bare(size), stay(size)), True)

    def test_both_does_one_and_then_the_other(self):
        self.assertEqual(both([1, 2, 0], [0, 2, 1]), [2, 1, 0])
        self.assertEqual(both([0, 2, 1], [1, 2, 0]), [1, 0, 2])
        self.assertEqual(both([0], [0]), [0])

    def test_both_in_either_order(self):
        source = random.Random(41)
        unlike = 0
        for again in range(60):
            size = source.randint(1, 7)
            one, other = random_order(source, size), random_order(source, size)
            told, swapped = both(one, other), both(other, one)
            self.assertEqual(told, [other[one[place]] for place in range(size)])
            self.assertEqual(swapped, [one[other[place]] for place in range(size)])
            self.assertIsInstance(told, list)
            unlike += told != swapped
        self.assertGreater(unlike, 20)

    def test_back(self):
        self.assertEqual(back([1, 2, 0]), [2, 0, 1])
        self.assertEqual(back([0]), [0])
        self.assertEqual(back([3, 0, 1, 2]), [1, 2, 3, 0])
        source = random.Random(42)
        for again in range(40):
            one = random_order(source, source.randint(1, 7))
            self.assertEqual(both(one, back(one)), stay(len(one)))
            self.assertEqual(both(back(one), one), stay(len(one)))
            self.assertIsInstance(back(one), list)

    def test_lists_handed_in_stay_and_lists_told_are_the_askers_own(self):
        one, other = [1, 2, 0], [0, 2, 1]
        told = [both(one, other), both(one, stay(3)), both(stay(3), one), back(one), back(stay(3)), stay(3)]
        copies = [list(each) for each in told]
        one.clear()
        other.clear()
        self.assertEqual(told, copies)
        one, other = [1, 2, 0], [0, 2, 1]
        for each in told:
            each.append(9)
        self.assertEqual((one, other), ([1, 2, 0], [0, 2, 1]))
        again = [both(one, other), both(one, stay(3)), both(stay(3), one), back(one), back(stay(3)), stay(3)]
        self.assertEqual(again, copies)


class MadeOf(unittest.TestCase):
    def test_no_turnings(self):
        for size in range(1, 8):
            self.assertEqual(made_of(size, []), [list(range(size))])

    def test_by_the_letter(self):
        self.assertEqual(made_of(1, [[0]]), [[0]])
        self.assertEqual(made_of(2, [[1, 0]]), [[0, 1], [1, 0]])
        self.assertEqual(made_of(3, [[1, 2, 0]]), [[0, 1, 2], [1, 2, 0], [2, 0, 1]])
        self.assertEqual(made_of(3, [[0, 2, 1], [1, 0, 2]]),
                         [[0, 1, 2], [0, 2, 1], [1, 0, 2], [1, 2, 0], [2, 0, 1], [2, 1, 0]])
        self.assertEqual(made_of(4, [[1, 0, 2, 3], [0, 1, 3, 2]]),
                         [[0, 1, 2, 3], [0, 1, 3, 2], [1, 0, 2, 3], [1, 0, 3, 2]])

    def test_a_turning_handed_in_twice(self):
        self.assertEqual(made_of(3, [[1, 2, 0], [1, 2, 0]]), [[0, 1, 2], [1, 2, 0], [2, 0, 1]])
        self.assertEqual(made_of(3, [[0, 1, 2], [1, 0, 2], [0, 1, 2], [1, 0, 2]]), [[0, 1, 2], [1, 0, 2]])
        self.assertEqual(made_of(2, [[1, 0]] * 12), [[0, 1], [1, 0]])

    def test_rising_and_each_once(self):
        source = random.Random(43)
        told = 0
        for again in range(80):
            size = source.randint(1, 7)
            turnings = [random_order(source, size) for each in range(source.choice([0, 1, 1, 2, 3]))]
            made = made_by_hand(size, turnings)
            if len(made) <= 720:
                told += len(made) > 1
                self.assertTrue(made_of(size, turnings) == rising(made), turnings)
            else:
                with self.assertRaises(TooMany):
                    made_of(size, turnings)
        self.assertGreater(told, 20)

    def test_twelve_turnings(self):
        source = random.Random(44)
        turnings = [random_order(source, 5) for each in range(12)]
        self.assertTrue(made_of(5, turnings) == rising(itertools.permutations(range(5))))

    def test_720_are_told(self):
        all_orders = rising(itertools.permutations(range(6)))
        # Not by assertEqual, which takes minutes to show how two such lists are unlike.
        self.assertTrue(made_of(6, neighbour_swaps(6)) == all_orders)
        self.assertTrue(made_of(6, [[1, 2, 3, 4, 5, 0], [1, 0, 2, 3, 4, 5]]) == all_orders)
        six_of_seven = [[0] + [place + 1 for place in order] for order in all_orders]
        self.assertTrue(made_of(7, neighbour_swaps(7)[1:]) == six_of_seven)

    def test_more_are_refused(self):
        evens = [[1, 2, 0, 3, 4, 5, 6], [0, 1, 3, 4, 5, 6, 2]]
        self.assertEqual(len(made_by_hand(7, evens)), 2520)
        for turnings in (evens, neighbour_swaps(7), neighbour_swaps(7) * 2, [[1, 2, 3, 4, 5, 6, 0], swap(7, 0, 1)]):
            for refusal in (TooMany, WebError):
                with self.assertRaises(refusal):
                    made_of(7, turnings)

    def test_little_more_than_720_are_refused(self):
        # Of seven places 2520 is the next number above 720 that comes; of eight some come between the two.
        wreath = [swap(8, 0, 1), [1, 2, 3, 0, 4, 5, 6, 7], [4, 5, 6, 7, 0, 1, 2, 3]]
        self.assertEqual(len(made_by_hand(8, wreath)), 1152)
        with self.assertRaises(TooMany):
            made_of(8, wreath)
        self.assertEqual(len(made_of(8, wreath[:2])), 24)

    def test_lists_handed_in_stay_and_lists_told_are_the_askers_own(self):
        turnings = [[1, 2, 0], [0, 1, 2]]
        told = made_of(3, turnings)
        self.assertEqual(turnings, [[1, 2, 0], [0, 1, 2]])
        turnings[0].clear()
        turnings.clear()
        self.assertEqual(told, [[0, 1, 2], [1, 2, 0], [2, 0, 1]])
        turnings = [[1, 2, 0], [0, 1, 2]]
        told = made_of(3, turnings)
        for at, made in enumerate(told):
            made.append(9)
            self.assertEqual([len(each) for each in told], [4] * (at + 1) + [3] * (2 - at))
        told.clear()
        self.assertEqual(turnings, [[1, 2, 0], [0, 1, 2]])
        self.assertEqual(made_of(3, turnings), [[0, 1, 2], [1, 2, 0], [2, 0, 1]])


class OrbitsOf(unittest.TestCase):
    def test_no_turnings(self):
        for size in range(1, 8):
            self.assertEqual(orbits_of(size, []), [[place] for place in range(size)])

    def test_one(self):
        self.assertEqual(orbits_of(3, [[0, 1, 2]]), [[0], [1], [2]])
        self.assertEqual(orbits_of(4, [[3, 1, 2, 0]]), [[0, 3], [1], [2]])
        self.assertEqual(orbits_of(5, [[4, 2, 1, 0, 3]]), [[0, 3, 4], [1, 2]])
        self.assertEqual(orbits_of(1, [[0]]), [[0]])

    def test_several(self):
        self.assertEqual(orbits_of(7, [swap(7, 5, 6), swap(7, 1, 5), swap(7, 0, 3)]), [[0, 3], [1, 5, 6], [2], [4]])
        self.assertEqual(orbits_of(4, [swap(4, 2, 3), swap(4, 1, 2), swap(4, 0, 1)]), [[0, 1, 2, 3]])
        self.assertEqual(orbits_of(3, [swap(3, 0, 2)] * 3), [[0, 2], [1]])

    def test_in_the_order_of_their_first_places(self):
        self.assertEqual(orbits_of(6, [swap(6, 0, 5), swap(6, 1, 4), swap(6, 2, 3)]), [[0, 5], [1, 4], [2, 3]])

    def test_of_many_turnings(self):
        source = random.Random(45)
        for again in range(100):
            size = source.randint(1, 6)
            turnings = [swap(size, source.randrange(size), source.randrange(size)) if source.random() < 0.7
                        else random_order(source, size) for each in range(source.randint(0, 3))]
            turnings = [turning for turning in turnings if sorted(turning) == list(range(size))]
            self.assertEqual(orbits_of(size, turnings), orbits_by_hand(size, turnings))

    def test_where_more_than_720_come_of_them(self):
        self.assertEqual(orbits_of(7, neighbour_swaps(7)), [[0, 1, 2, 3, 4, 5, 6]])
        self.assertEqual(orbits_of(7, [[1, 2, 3, 4, 5, 6, 0], swap(7, 0, 1)] * 6), [[0, 1, 2, 3, 4, 5, 6]])

    def test_lists_handed_in_stay_and_lists_told_are_the_askers_own(self):
        turnings = [[1, 0, 2]]
        told = orbits_of(3, turnings)
        told[0].append(9)
        told[1].clear()
        told.pop()
        self.assertEqual(turnings, [[1, 0, 2]])
        self.assertEqual(orbits_of(3, turnings), [[0, 1], [2]])
        told = orbits_of(3, turnings)
        turnings[0].clear()
        self.assertEqual(told, [[0, 1], [2]])


class TurningsOfWebs(unittest.TestCase):
    def test_done_one_behind_another_they_are_turnings(self):
        web = Web(["a"] * 6, both_ways([(0, 1), (2, 3), (4, 5)]))
        one, other = [1, 0, 2, 3, 4, 5], [2, 3, 4, 5, 0, 1]
        for turning in (one, other, both(one, other), both(other, one), back(other)):
            self.assertIs(is_turning(web, turning), True)
        self.assertEqual(len(made_of(6, [one, other])), 24)


if __name__ == "__main__":
    unittest.main()
