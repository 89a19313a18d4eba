import itertools
import random
import unittest

from tests.helping import (bare, both_ways, is_alike_by_hand, named_webs, random_order, random_webs, ring, sorted_ties,
                           turned_by_hand, woven_webs, writing_by_hand)
from tieword.reading import read_web
from tieword.webs import Web, turned
from tieword.writing import written, written_order

MOST = 10 ** 30 - 1


def webs_to_try(seed, many=80):
    return list(named_webs().values()) + random_webs(seed, many) + woven_webs(seed, 20)


def letters(ties, many=None):
    """A web of places a, b, c .. and ties like "ab": its least order is that of its letters."""
    size = many or max(ord(sign) - ord("a") for pair in ties.split() for sign in pair) + 1
    return Web(list("abcdefg")[:size],
               [(ord(one) - ord("a"), ord(other) - ord("a"), 0, False) for one, other in ties.split()])


class ByTheLetter(unittest.TestCase):
    def assert_written(self, web, text):
        source = random.Random(70)
        self.assertEqual(written(web), text)
        self.assertEqual(writing_by_hand(web), text)
        for again in range(4):
            self.assertEqual(written(turned_by_hand(web, random_order(source, web.size()))), text)

    def test_places(self):
        self.assert_written(Web(["a"], []), "a")
        self.assert_written(Web(["xyz"], []), "xyz")

    def test_runs(self):
        self.assert_written(letters("ab"), "a~0b")
        self.assert_written(letters("ab bc cd"), "a~0b~0c~0d")
        self.assert_written(Web(["c", "c", "o"], [(0, 1, 1, False), (1, 2, 2, True)]), "c~1c>2o")

    def test_from_the_least_place_on(self):
        self.assert_written(letters("bc ac"), "a~0c~0b")
        self.assert_written(letters("ad cd bc"), "a~0d~0c~0b")

    def test_boughs(self):
        self.assert_written(letters("ab ac"), "a(~0b)~0c")
        self.assert_written(letters("ab ac ad ae"), "a(~0b)(~0c)(~0d)~0e")
        self.assert_written(letters("ab ae bc bd"), "a(~0b(~0c)~0d)~0e")
        self.assert_written(letters("ab bc ad"), "a(~0b~0c)~0d")
        self.assert_written(letters("ab bc cd ce bf ag"), "a(~0b(~0c(~0d)~0e)~0f)~0g")
        self.assert_written(letters("ag ga ab"), "a(~0b)~0~0g.c.d.e.f")

    def test_the_least_near_place_is_gone_to_first(self):
        self.assert_written(letters("ac ab bd"), "a(~0b~0d)~0c")
        self.assert_written(letters("ad db dc"), "a~0d(~0b)~0c")

    def test_last_one_gone_to_stands_behind_marks_though_others_are_near(self):
        # From a one goes to b and from there to c, so that a has no place left to go to.
        self.assert_written(letters("ab ac bc"), "a{1}~0b~0c{1:~0}")
        # The last near place of b is d, but one comes to it from c.
        self.assert_written(letters("ab bc bd cd"), "a~0b{1}~0c~0d{1:~0}")
        # From a to b, from there to d; then from a to c, which is the last one gone to, and d makes a ring.
        self.assert_written(letters("ab ac ad bd"), "a{1}(~0b~0d{1:~0})~0c")

    def test_marks_in_the_order_of_between(self):
        ties = [(0, 1, 10, False), (1, 0, 5, True), (0, 1, 5, True), (0, 1, 9, False), (0, 1, 5, False),
                (1, 0, 5, True)]
        self.assert_written(Web(["a", "b"], ties), "a~5>5<5<5~9~10b")
        self.assert_written(Web(["b", "a"], ties), "a~5>5>5<5~9~10b")

    def test_one_way(self):
        self.assert_written(Web(["a", "b"], [(0, 1, 7, True)]), "a>7b")
        self.assert_written(Web(["a", "b"], [(1, 0, 7, True)]), "a<7b")
        self.assert_written(Web(["a", "a"], [(0, 1, MOST, True)]), f"a>{MOST}a")

    def test_rings(self):
        self.assert_written(Web(["a"] * 3, ring(0, 1, 2)), "a{1}~0a~0a{1:~0}")
        self.assert_written(Web(["a"] * 4, ring(0, 1, 2, 3)), "a{1}~0a~0a~0a{1:~0}")
        self.assert_written(letters("ab bc cd da"), "a{1}~0b~0c~0d{1:~0}")

    def test_marks_of_rings_lead_from_the_opening_place(self):
        sides = [(0, 1, 0, False), (1, 2, 0, False)]
        self.assert_written(Web(["a", "b", "c"], sides + [(0, 2, 7, True)]), "a{1}~0b~0c{1:>7}")
        self.assert_written(Web(["a", "b", "c"], sides + [(2, 0, 7, True)]), "a{1}~0b~0c{1:<7}")
        ties = [(2, 0, 7, True), (0, 2, 7, True), (2, 0, 7, False), (0, 2, 11, False), (0, 2, 3, True), (2, 0, 7, True)]
        self.assert_written(Web(["a", "b", "c"], sides + ties), "a{1}~0b~0c{1:>3~7>7<7<7~11}")

    def test_rings_are_numbered_by_their_closing_places(self):
        self.assert_written(letters("ab bc cd de ae bd"), "a{2}~0b{1}~0c~0d{1:~0}~0e{2:~0}")
        self.assert_written(letters("ab bc cd de ad be"), "a{1}~0b{2}~0c~0d{1:~0}~0e{2:~0}")

    def test_rings_of_one_closing_place_are_numbered_by_their_opening_places(self):
        self.assert_written(letters("ab bc cd de ae be"), "a{1}~0b{2}~0c~0d~0e{1:~0}{2:~0}")
        self.assert_written(letters("ab ac ad bc bd cd"), "a{1}{2}~0b{3}~0c{1:~0}~0d{2:~0}{3:~0}")

    def test_order_in_the_text_is_not_that_of_the_places(self):
        # They stand as a, d, b, c: the ring of d and c closes at c, opened at the place that stands ahead.
        self.assert_written(letters("ad db bc cd"), "a~0d{1}~0b~0c{1:~0}")
        # They stand as a, e, b, c, d: e opens ahead of b, though b is less.
        self.assert_written(letters("ae eb bc cd de db"), "a~0e{1}~0b{2}~0c~0d{1:~0}{2:~0}")
        # They stand as a, e, b, d, c: the ring of d closes ahead of that of c.
        self.assert_written(letters("ae eb bd dc ec ed"), "a~0e{1}{2}~0b~0d{1:~0}~0c{2:~0}")
        # They stand as a, d, b, c, and the marks lead from the place that stands ahead: d, though c is less.
        self.assert_written(Web(list("abcd"), both_ways([(0, 3), (3, 1), (1, 2)]) + [(3, 2, 4, True)]),
                            "a~0d{1}~0b~0c{1:>4}")

    def test_ring_signs_stand_in_the_order_of_their_numbers(self):
        self.assert_written(letters("ab bc ac cd de ce"), "a{1}~0b~0c{1:~0}{2}~0d~0e{2:~0}")
        # The boughs of a ring's opening place come behind its signs.
        self.assert_written(letters("ab ac ad bd af cg"), "a{1}(~0b~0d{1:~0})(~0c~0g)~0f.e")

    def test_one_ring_for_all_ties_between_two_places(self):
        self.assert_written(letters("ab bc ac ac ca"), "a{1}~0b~0c{1:~0~0~0}")

    def test_parts(self):
        self.assert_written(Web(["a", "b", "c"], []), "a.b.c")
        self.assert_written(bare(7), "a.a.a.a.a.a.a")
        self.assert_written(letters("ac"), "a~0c.b")
        self.assert_written(letters("ad bc"), "a~0d.b~0c")
        self.assert_written(letters("af fc ca bd db eg"), "a{1}~0c~0f{1:~0}.b~0~0d.e~0g")

    def test_ring_numbers_go_on_in_the_next_part(self):
        self.assert_written(letters("ab bc ac de ef df"), "a{1}~0b~0c{1:~0}.d{2}~0e~0f{2:~0}")
        self.assert_written(letters("ac ce ea bd df fb"), "a{1}~0c~0e{1:~0}.b{2}~0d~0f{2:~0}")

    def test_made_of_the_least_order(self):
        # Three places of one kind around a fourth: one of them is the least place, the fourth the last.
        self.assert_written(Web(["b", "a", "a", "a"], both_ways([(0, 1), (0, 2), (0, 3)])), "a~0b(~0a)~0a")
        self.assert_written(Web(["a"] * 5, [(k, (k + 1) % 5, 3, True) for k in range(5)]), "a{1}<3a<3a<3a<3a{1:>3}")
        self.assert_written(Web(["a"] * 7, ring(0, 1, 2) + ring(3, 4, 5, 6)),
                            "a{1}~0a~0a~0a{1:~0}.a{2}~0a~0a{2:~0}")


class ByTheWords(unittest.TestCase):
    def test_of_many_webs(self):
        for web in webs_to_try(71, 150):
            self.assertIsInstance(written(web), str)
            self.assertEqual(written(web), writing_by_hand(web))

    def test_of_webs_of_unlike_kinds_with_many_rings(self):
        source = random.Random(72)
        pairs = [one + other for one, other in itertools.combinations("abcdefg", 2)]
        for again in range(150):
            web = letters(" ".join(source.sample(pairs, source.randint(6, 12))), 7)
            self.assertEqual(written(web), writing_by_hand(web))


class WrittenOrder(unittest.TestCase):
    def test_by_the_letter(self):
        self.assertEqual(written_order(Web(["a"], [])), [0])
        self.assertEqual(written_order(letters("ac")), [0, 2, 1])
        self.assertEqual(written_order(letters("ad db bc cd")), [0, 3, 1, 2])
        self.assertEqual(written_order(Web(["c", "b", "a"], both_ways([(2, 0), (1, 0)]))), [2, 0, 1])
        self.assertEqual(written_order(Web(["b", "c", "a", "d"], both_ways([(2, 3)]))), [2, 3, 0, 1])

    def test_is_an_order(self):
        for web in webs_to_try(73):
            order = written_order(web)
            self.assertIsInstance(order, list)
            self.assertEqual(sorted(order), list(range(web.size())))

    def test_places_stand_so_in_the_text(self):
        for web in webs_to_try(74):
            text = written(web)
            kinds = "".join(sign if sign.isalpha() else " " for sign in text).split()
            self.assertEqual(kinds, [web.kinds[place] for place in written_order(web)])

    def test_what_is_read_back_is_the_web_turned(self):
        for web in webs_to_try(75, 150):
            back = read_web(written(web))
            order = written_order(web)
            like = turned_by_hand(web, order)
            self.assertEqual((back.kinds, back.ties), (like.kinds, sorted_ties(like.ties)))
            told = turned(web, order)
            self.assertEqual((back.kinds, back.ties), (told.kinds, told.ties))

    def test_what_is_read_back_has_the_same_writing(self):
        for web in webs_to_try(76):
            text = written(web)
            self.assertEqual(written(read_web(text)), text)


class OneWriting(unittest.TestCase):
    def test_same_for_alike_webs(self):
        source = random.Random(77)
        for web in webs_to_try(77):
            for again in range(3):
                self.assertEqual(written(turned_by_hand(web, random_order(source, web.size()))), written(web))

    def test_all_turned_webs(self):
        for name in ("six, one across and two aslant", "ties manifold", "one-way ring of five"):
            web = named_webs()[name]
            text = written(web)
            for order in itertools.permutations(range(web.size())):
                self.assertEqual(written(turned_by_hand(web, order)), text)

    def test_alike_just_when_the_writings_are_the_same(self):
        webs = random_webs(78, 80, 4) + woven_webs(78, 25) + list(named_webs().values())
        texts = [written(web) for web in webs]
        for one, other in itertools.combinations(range(len(webs)), 2):
            self.assertEqual(texts[one] == texts[other], is_alike_by_hand(webs[one], webs[other]))

    def test_unlike_where_places_look_alike(self):
        webs = named_webs()
        for one, other in (("six, straight across", "six, one across and two aslant"),
                           ("two rings of three", "ring of six"), ("rings of three and four", "ring of seven")):
            self.assertNotEqual(written(webs[one]), written(webs[other]))
        self.assertEqual(written(webs["rings of three and four"]), written(webs["rings of three and four, mixed"]))

    def test_little_differences_are_told(self):
        texts = [written(web) for web in (
            Web(["a", "a"], []), Web(["a"], []), Web(["a", "b"], []), Web(["aa"], []),
            Web(["a", "a"], [(0, 1, 0, False)]), Web(["a", "a"], [(0, 1, 0, True)]),
            Web(["a", "a"], [(0, 1, 1, False)]), Web(["a", "a"], [(0, 1, 0, False)] * 2),
            Web(["a", "a"], [(0, 1, 0, True)] * 2), Web(["a", "a"], [(0, 1, 0, True), (1, 0, 0, True)]),
            Web(["a", "b"], [(0, 1, 0, True)]), Web(["a", "b"], [(1, 0, 0, True)]),
            Web(["a", "a"], [(0, 1, 10, False)]), Web(["a", "a"], [(0, 1, 1, False), (0, 1, 0, False)]))]
        self.assertEqual(len(set(texts)), len(texts))


class Length(unittest.TestCase):
    def test_less_than_500_signs(self):
        source = random.Random(79)
        pairs = list(itertools.combinations(range(7), 2))
        most = 0
        for again in range(100):
            size = source.choice([6, 7])
            near = source.sample([pair for pair in pairs if pair[1] < size], 12)
            web = Web(["zzz"] * 7, [(one, other, MOST, source.random() < 0.5) for one, other in near])
            text = written(web)
            most = max(most, len(text))
            self.assertLess(len(text), 500)
            back = read_web(text)
            self.assertEqual((len(back.kinds), len(back.ties)), (7, 12))
        self.assertGreater(most, 440)

    def test_all_ties_between_two_places(self):
        text = written(Web(["zzz"] * 7, [(0, 1, MOST, False)] * 12))
        self.assertEqual(text, "zzz.zzz.zzz.zzz.zzz.zzz" + f"~{MOST}" * 12 + "zzz")
        self.assertLess(len(text), 500)


class NothingKeptOrChanged(unittest.TestCase):
    def test_webs_are_left_as_they_were(self):
        for web in webs_to_try(80, 20):
            kinds, ties = list(web.kinds), list(web.ties)
            written(web)
            written_order(web)
            self.assertEqual((web.kinds, web.ties), (kinds, ties))

    def test_order_told_is_the_askers_own(self):
        for web in webs_to_try(81, 20):
            text, order = written(web), written_order(web)
            copy = list(order)
            order.reverse()
            order.append(9)
            self.assertEqual(written_order(web), copy)
            self.assertEqual(written(web), text)


if __name__ == "__main__":
    unittest.main()
