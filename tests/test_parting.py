import random
import unittest

from tests.helping import (bare, both_ways, chosen_by_hand, keys_by_hand, named_webs, open_by_hand, random_order,
                           random_parting, random_webs, ranks_by_hand, ring, settled_by_hand, table_of,
                           turned_by_hand)
from tieword.parting import chosen, finer, first_parting, keys_of, open_class, ranked, rounds_of, settled
from tieword.webs import Web


def row(size):
    return Web(["a"] * size, both_ways([(k, k + 1) for k in range(size - 1)]))


def webs_with_partings(seed):
    """Many webs, each with a parting that is seldom settled."""
    source = random.Random(seed)
    for web in random_webs(seed, 80) + list(named_webs().values()):
        yield web, random_parting(source, web.size()), source


class Ranked(unittest.TestCase):
    def test_empty_list(self):
        self.assertEqual(ranked([]), [])

    def test_numbers(self):
        self.assertEqual(ranked([5]), [0])
        self.assertEqual(ranked([10, 9, 100]), [1, 0, 2])
        self.assertEqual(ranked([7, 7, 7]), [0, 0, 0])
        self.assertEqual(ranked([4, -3, 4, 0, -3, 10 ** 30, 4]), [2, 0, 2, 1, 0, 3, 2])

    def test_texts(self):
        self.assertEqual(ranked(["b", "ab", "a", "ba", "ab", "b"]), [2, 1, 0, 3, 1, 2])
        self.assertEqual(ranked(["10", "9", ""]), [1, 2, 0])

    def test_tuples(self):
        self.assertEqual(ranked([(1, "b"), (1, "a"), (0, "z"), (1, "b"), (0, "z", 0)]), [3, 2, 0, 3, 1])
        self.assertEqual(ranked([(), ((1, 0),), ((0, 2), (0, 2)), (), ((0, 2),)]), [0, 3, 2, 0, 1])

    def test_each_rank_counts_the_unlike_lesser_values(self):
        source = random.Random(7)
        for again in range(50):
            keys = [source.randint(-3, 3) for at in range(source.randint(0, 9))]
            self.assertEqual(ranked(keys), ranks_by_hand(keys))

    def test_keys_are_left_as_they_were(self):
        keys = [3, 1, 2, 1]
        told = ranked(keys)
        self.assertEqual(keys, [3, 1, 2, 1])
        told.clear()
        self.assertEqual(ranked(keys), [2, 0, 1, 0])
        straight = [0, 1, 2]
        ranked(straight).append(9)
        self.assertEqual(straight, [0, 1, 2])


class KeysAndFiner(unittest.TestCase):
    def test_keys_of_one_place(self):
        self.assertEqual(keys_of(Web(["q"], []), [0]), [(0, ())])

    def test_keys_by_the_letter(self):
        web = Web(["a"] * 3, [(0, 1, 5, True), (1, 2, 6, False)])
        self.assertEqual(keys_of(web, [1, 0, 1]), [
            (1, ((0, ((5, 1),)), (1, ()))),
            (0, ((1, ((5, 2),)), (1, ((6, 0),)))),
            (1, ((0, ((6, 0),)), (1, ()))),
        ])
        self.assertEqual(finer(web, [1, 0, 1]), [1, 0, 2])

    def test_keys_are_sorted_tuples_whatever_the_order_of_places(self):
        web = Web(["a"] * 4, [(0, 1, 9, False), (0, 2, 3, False)])
        self.assertEqual(keys_of(web, [0, 0, 0, 0])[0], (0, ((0, ()), (0, ((3, 0),)), (0, ((9, 0),)))))
        self.assertEqual(keys_of(web, [0, 2, 1, 1])[0], (0, ((1, ()), (1, ((3, 0),)), (2, ((9, 0),)))))

    def test_of_many_webs(self):
        for web, parting, source in webs_with_partings(8):
            keys = keys_of(web, parting)
            self.assertEqual(keys, keys_by_hand(table_of(web), parting))
            self.assertEqual(finer(web, parting), ranks_by_hand(keys))

    def test_unlike_classes_stay_unlike_and_in_order(self):
        for web, parting, source in webs_with_partings(9):
            told = finer(web, parting)
            for one in range(web.size()):
                for other in range(web.size()):
                    if parting[one] < parting[other]:
                        self.assertLess(told[one], told[other])

    def test_one_step_alone(self):
        self.assertEqual(finer(row(7), [0] * 7), [0, 1, 1, 1, 1, 1, 0])


class SettledPartings(unittest.TestCase):
    def test_rounds_of_a_row(self):
        self.assertEqual(rounds_of(row(7), [0] * 7), [
            [0, 0, 0, 0, 0, 0, 0],
            [0, 1, 1, 1, 1, 1, 0],
            [0, 2, 1, 1, 1, 2, 0],
            [0, 3, 1, 2, 1, 3, 0],
        ])
        self.assertEqual(settled(row(7), [0] * 7), [0, 3, 1, 2, 1, 3, 0])

    def test_settled_one_stands_alone(self):
        for web, parting in ((row(7), [0, 3, 1, 2, 1, 3, 0]), (bare(3), [0, 0, 0]), (bare(3), [0, 1, 0]),
                             (row(3), [2, 1, 0]), (bare(1), [0])):
            self.assertEqual(rounds_of(web, parting), [parting])
            self.assertEqual(settled(web, parting), parting)
            self.assertEqual(finer(web, parting), parting)

    def test_rounds_of_many_webs(self):
        for web, parting, source in webs_with_partings(10):
            rounds = rounds_of(web, parting)
            self.assertEqual(rounds[0], parting)
            for ahead, behind in zip(rounds, rounds[1:]):
                self.assertEqual(behind, finer(web, ahead))
                self.assertNotEqual(behind, ahead)
            self.assertEqual(finer(web, rounds[-1]), rounds[-1])
            self.assertEqual(settled(web, parting), rounds[-1])
            self.assertEqual(settled(web, parting), settled_by_hand(table_of(web), parting))
            self.assertEqual(rounds_of(web, rounds[-1]), [rounds[-1]])

    def test_first_parting_ranks_kinds_as_texts(self):
        self.assertEqual(first_parting(Web(["b", "ab", "a", "ba", "ab"], [])), [2, 1, 0, 3, 1])
        self.assertEqual(first_parting(Web(["z"], [])), [0])

    def test_first_parting_is_settled(self):
        self.assertEqual(first_parting(row(7)), [0, 3, 1, 2, 1, 3, 0])
        self.assertEqual(first_parting(Web(["a"] * 2, [(1, 0, 0, True)])), [1, 0])
        for web, parting, source in webs_with_partings(11):
            self.assertEqual(first_parting(web), settled_by_hand(table_of(web), ranks_by_hand(web.kinds)))

    def test_places_that_look_alike_and_are_not(self):
        webs = named_webs()
        for name in ("rings of three and four", "rings of three and four, mixed"):
            self.assertEqual(first_parting(webs[name]), [0] * 7)
        for name in ("six, straight across", "six, one across and two aslant", "two rings of three", "ring of six"):
            self.assertEqual(first_parting(webs[name]), [0] * 6)


class Chosen(unittest.TestCase):
    def test_put_ahead_of_its_class(self):
        self.assertEqual(chosen(bare(3), [0, 0, 0], 1), [1, 0, 1])
        self.assertEqual(chosen(bare(4), [0, 1, 1, 2], 2), [0, 2, 1, 3])
        self.assertEqual(chosen(bare(6), [2, 1, 0, 1, 1, 2], 4), [3, 2, 0, 2, 1, 3])

    def test_settled_behind_it(self):
        self.assertEqual(chosen(Web(["a"] * 4, ring(0, 1, 2, 3)), [0] * 4, 2), [1, 2, 0, 2])
        self.assertEqual(chosen(row(7), [0, 3, 1, 2, 1, 3, 0], 6), [1, 5, 3, 4, 2, 6, 0])

    def test_alone_in_its_class(self):
        self.assertEqual(chosen(bare(3), [0, 1, 0], 1), [0, 1, 0])
        self.assertEqual(chosen(bare(4), [0, 1, 2, 2], 0), [0, 1, 2, 2])
        self.assertEqual(chosen(bare(1), [0], 0), [0])
        # Not settled as it was handed in: settled all the same.
        self.assertEqual(chosen(row(3), [1, 1, 0], 2), [1, 2, 0])

    def test_of_many_webs(self):
        for web, parting, source in webs_with_partings(12):
            for place in range(web.size()):
                self.assertEqual(chosen(web, parting, place), chosen_by_hand(table_of(web), parting, place))

    def test_parts_the_places_that_look_alike(self):
        web = named_webs()["rings of three and four"]
        self.assertEqual(chosen(web, [0] * 7, 0), [0, 2, 2, 1, 1, 1, 1])
        self.assertEqual(chosen(web, [0] * 7, 3), [2, 2, 2, 0, 3, 1, 3])


class OpenClass(unittest.TestCase):
    def test_least_class_with_more_than_one(self):
        self.assertEqual(open_class([0, 0]), [0, 1])
        self.assertEqual(open_class([1, 0, 1, 0]), [1, 3])
        self.assertEqual(open_class([0, 2, 1, 2, 1, 2]), [2, 4])
        self.assertEqual(open_class([3, 2, 0, 2, 1, 3]), [1, 3])
        self.assertEqual(open_class([2, 2, 1, 2, 0]), [0, 1, 3])

    def test_none(self):
        self.assertEqual(open_class([0]), [])
        self.assertEqual(open_class([2, 0, 1]), [])
        self.assertEqual(open_class([6, 5, 4, 3, 2, 1, 0]), [])

    def test_of_many_partings(self):
        source = random.Random(13)
        for again in range(100):
            parting = random_parting(source, source.randint(1, 7))
            self.assertEqual(open_class(parting), open_by_hand(parting))


class TheSameForAlikeWebs(unittest.TestCase):
    def test_turned_likewise(self):
        for web, parting, source in webs_with_partings(14):
            order = random_order(source, web.size())
            like = turned_by_hand(web, order)
            likewise = [parting[place] for place in order]

            def same(of_web, of_like):
                self.assertEqual(of_like, [of_web[place] for place in order])

            same(keys_of(web, parting), keys_of(like, likewise))
            same(finer(web, parting), finer(like, likewise))
            same(settled(web, parting), settled(like, likewise))
            same(first_parting(web), first_parting(like))
            for place in range(web.size()):
                same(chosen(web, parting, order[place]), chosen(like, likewise, place))
            rounds, like_rounds = rounds_of(web, parting), rounds_of(like, likewise)
            self.assertEqual(len(rounds), len(like_rounds))
            for of_web, of_like in zip(rounds, like_rounds):
                same(of_web, of_like)
            self.assertEqual(open_class(parting), sorted(order[place] for place in open_class(likewise)))


class NothingKeptOrChanged(unittest.TestCase):
    def test_what_is_handed_in_is_left_as_it_was(self):
        for web, parting, source in webs_with_partings(15):
            kinds, ties, handed = list(web.kinds), list(web.ties), list(parting)
            keys_of(web, parting)
            finer(web, parting)
            settled(web, parting)
            first_parting(web)
            rounds_of(web, parting)
            chosen(web, parting, 0)
            open_class(parting)
            self.assertEqual((web.kinds, web.ties, parting), (kinds, ties, handed))

    def test_lists_told_are_the_askers_own(self):
        web, parting = bare(3), [0, 1, 0]
        for told in (finer(web, parting), settled(web, parting), chosen(web, parting, 1), rounds_of(web, parting)[0],
                     rounds_of(web, parting)[-1], keys_of(web, parting), open_class(parting), first_parting(web)):
            told.append(9)
            told[0] = 8
            self.assertEqual(parting, [0, 1, 0])
            self.assertEqual((web.kinds, web.ties), (["a"] * 3, []))
        self.assertEqual(rounds_of(web, parting), [[0, 1, 0]])
        self.assertEqual(first_parting(web), [0, 0, 0])

    def test_rounds_are_lists_of_their_own(self):
        rounds = rounds_of(row(5), [0] * 5)
        rounds[0].append(9)
        self.assertEqual(rounds[1:], rounds_of(row(5), [0] * 5)[1:])

    def test_parting_changed_afterwards_changes_nothing(self):
        parting = [0, 0, 0]
        rounds = rounds_of(bare(3), parting)
        parting[0] = 1
        self.assertEqual(rounds, [[0, 0, 0]])


if __name__ == "__main__":
    unittest.main()
