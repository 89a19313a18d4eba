import itertools
import random
import unittest

from tests.helping import (bare, both_ways, is_alike_by_hand, named_webs, random_order, random_webs, ring, same,
                           turned_by_hand, woven_webs, writing_by_hand)
from tieword.books import Webbook, pairing
from tieword.errors import BadName, NoWeb, Twice, WebError
from tieword.webs import Web

ROW = Web(["c", "c", "o"], [(0, 1, 1, False), (1, 2, 2, True)])
STAR = Web(["a"] * 4, both_ways([(0, 1), (0, 2), (0, 3)]))


def webs_to_try(seed, many=60):
    return list(named_webs().values()) + random_webs(seed, many) + woven_webs(seed, 15)


class Pairing(unittest.TestCase):
    def assert_pairs(self, one, other):
        order = pairing(one, other)
        self.assertIsInstance(order, list)
        self.assertEqual(sorted(order), list(range(one.size())))
        self.assertTrue(same(turned_by_hand(one, order), other), (one.kinds, one.ties, other.ties, order))

    def test_where_one_order_alone_will_do(self):
        self.assertEqual(pairing(Web(["a"], []), Web(["a"], [])), [0])
        self.assertEqual(pairing(Web(["a", "b", "c"], []), Web(["b", "c", "a"], [])), [1, 2, 0])
        self.assertEqual(pairing(Web(["b", "c", "a"], []), Web(["a", "b", "c"], [])), [2, 0, 1])
        circle = Web(["a", "a", "b"], [(0, 1, 5, True)])
        self.assertEqual(pairing(circle, Web(["b", "a", "a"], [(2, 1, 5, True)])), [2, 1, 0])
        self.assertEqual(pairing(circle, Web(["b", "a", "a"], [(1, 2, 5, True)])), [2, 0, 1])

    def test_alike_webs_by_any_order(self):
        source = random.Random(90)
        for web in webs_to_try(90, 120):
            for again in range(4):
                self.assert_pairs(web, turned_by_hand(web, random_order(source, web.size())))
                self.assert_pairs(turned_by_hand(web, random_order(source, web.size())), web)
            self.assert_pairs(web, web)

    def test_all_orders(self):
        for name in ("six, one across and two aslant", "ties manifold", "one-way ring of five"):
            web = named_webs()[name]
            for order in itertools.permutations(range(web.size())):
                self.assert_pairs(web, turned_by_hand(web, order))

    def test_alike_and_unlike_by_hand(self):
        webs = random_webs(91, 80, 4) + woven_webs(91, 25) + list(named_webs().values())
        for one, other in itertools.combinations(webs, 2):
            if is_alike_by_hand(one, other):
                self.assert_pairs(one, other)
            else:
                self.assertIsNone(pairing(one, other))
                self.assertIsNone(pairing(other, one))

    def test_unlike_where_places_look_alike(self):
        webs = named_webs()
        for one, other in (("six, straight across", "six, one across and two aslant"),
                           ("two rings of three", "ring of six"), ("rings of three and four", "ring of seven")):
            self.assertIsNone(pairing(webs[one], webs[other]))
            self.assertIsNone(pairing(webs[other], webs[one]))

    def test_unlike_by_little(self):
        one = Web(["a", "a"], [(0, 1, 5, True)])
        for other in (bare(1), bare(2), bare(3), Web(["a", "b"], [(0, 1, 5, True)]), Web(["a", "a"], [(0, 1, 6, True)]),
                      Web(["a", "a"], [(0, 1, 5, False)]), Web(["a", "a"], [(0, 1, 5, True)] * 2),
                      Web(["a"] * 3, [(0, 1, 5, True)])):
            self.assertIsNone(pairing(one, other))
            self.assertIsNone(pairing(other, one))

    def test_order_told_is_the_askers_own(self):
        source = random.Random(92)
        for web in webs_to_try(92, 20):
            other = turned_by_hand(web, random_order(source, web.size()))
            kinds, ties = list(other.kinds), list(other.ties)
            told = pairing(web, other)
            copy = list(told)
            told.reverse()
            told.append(9)
            self.assertEqual(pairing(web, other), copy)
            self.assertEqual((other.kinds, other.ties), (kinds, ties))


class Names(unittest.TestCase):
    def test_names(self):
        for name in ("a", "z", "0", "9", "a1", "1a", "m5", "web", "007", "a" * 20, "9" * 20, "abcdefghij0123456789"):
            book = Webbook()
            book.note(ROW, name)
            self.assertEqual(book.name_of(ROW), name)
            self.assertEqual(book.names(), [name])

    def test_what_is_no_name(self):
        wrong = ["", "a" * 21, "9" * 21, "a" * 100, "A", "Z", "aB", "Web", " ", "a b", " a", "a ", "a\n", "\n", "\na",
                 "a" * 20 + "\n", "a" * 19 + "\n", "a\t", "a-b", "a_b", "_", "a.b", "`", "{", "/", ":", "a:", "@", "~",
                 "\u00e9", "a\u00e9", "\u00df", "\u0663", "a\u00b2", "\u03b1", "\uff41", "\u00aa"]
        book = Webbook()
        book.note(STAR, "star")
        for name in wrong:
            with self.subTest(name=name):
                for refusal in (BadName, WebError, ValueError):
                    with self.assertRaises(refusal):
                        book.note(ROW, name)
                self.assertIsNone(book.name_of(ROW))
                self.assertEqual((book.names(), book.many()), (["star"], 1))


class Book(unittest.TestCase):
    def test_empty(self):
        book = Webbook()
        self.assertEqual(book.many(), 0)
        self.assertEqual(book.names(), [])
        self.assertIsNone(book.name_of(ROW))
        self.assertIsNone(book.shown(ROW))
        for refusal in (NoWeb, WebError):
            with self.assertRaises(refusal):
                book.strike(ROW)

    def test_note_tells_the_writing(self):
        book = Webbook()
        self.assertEqual(book.note(ROW, "row"), "c~1c>2o")
        for number, web in enumerate(named_webs().values()):
            if book.name_of(web) is None:
                self.assertEqual(book.note(web, f"w{number}"), writing_by_hand(web))

    def test_found_by_alike_webs(self):
        source = random.Random(93)
        for web in webs_to_try(93, 30):
            book = Webbook()
            book.note(web, "it")
            for again in range(3):
                like = turned_by_hand(web, random_order(source, web.size()))
                self.assertEqual(book.name_of(like), "it")
                name, order = book.shown(like)
                self.assertEqual(name, "it")
                self.assertTrue(same(turned_by_hand(web, order), like))
                with self.assertRaises(Twice):
                    book.note(like, "other")
            self.assertEqual(book.strike(like), "it")
            self.assertEqual((book.many(), book.names(), book.name_of(web), book.shown(web)), (0, [], None, None))

    def test_shown_is_a_tuple_of_name_and_order(self):
        book = Webbook()
        book.note(ROW, "row")
        self.assertEqual(book.shown(turned_by_hand(ROW, [2, 0, 1])), ("row", [2, 0, 1]))
        self.assertIsInstance(book.shown(ROW), tuple)
        self.assertIsNone(book.shown(STAR))

    def test_which_refusal_is_told(self):
        book = Webbook()
        book.note(ROW, "row")
        like = turned_by_hand(ROW, [2, 1, 0])
        with self.assertRaises(BadName):
            book.note(like, "Row")
        with self.assertRaises(BadName):
            book.note(like, "")
        for web, name in ((like, "other"), (like, "row"), (STAR, "row"), (ROW, "row"), (ROW, "other")):
            for refusal in (Twice, WebError):
                with self.assertRaises(refusal):
                    book.note(web, name)

    def test_what_is_refused_changes_nothing(self):
        book = Webbook()
        book.note(ROW, "row")
        book.note(bare(2), "two")
        like = turned_by_hand(ROW, [2, 1, 0])
        for web, name, refusal in ((like, "other", Twice), (like, "two", Twice), (STAR, "row", Twice),
                                   (STAR, "", BadName), (like, "A", BadName)):
            with self.assertRaises(refusal):
                book.note(web, name)
            with self.assertRaises(NoWeb):
                book.strike(STAR)
            self.assertEqual((book.names(), book.many()), (["two", "row"], 2))
            self.assertIsNone(book.name_of(STAR))
            self.assertIsNone(book.shown(STAR))
            # The web as it was first noted, not the alike one that was refused.
            self.assertEqual(book.shown(ROW), ("row", [0, 1, 2]))
        self.assertEqual(book.note(STAR, "other"), writing_by_hand(STAR))

    def test_struck_out_and_noted_again(self):
        book = Webbook()
        book.note(ROW, "row")
        book.note(STAR, "star")
        self.assertEqual(book.strike(turned_by_hand(ROW, [1, 2, 0])), "row")
        self.assertEqual((book.names(), book.many()), (["star"], 1))
        with self.assertRaises(NoWeb):
            book.strike(ROW)
        # The name is free for another web, and the web for another name.
        book.note(bare(2), "row")
        like = turned_by_hand(ROW, [2, 0, 1])
        self.assertEqual(book.note(like, "again"), "c~1c>2o")
        self.assertEqual(book.names(), ["row", "star", "again"])
        # Shown from the web as it was noted the second time.
        self.assertEqual(book.shown(like), ("again", [0, 1, 2]))
        self.assertEqual(book.shown(ROW), ("again", [1, 2, 0]))
        self.assertEqual(book.strike(ROW), "again")
        self.assertEqual(book.note(ROW, "again"), "c~1c>2o")
        self.assertEqual(book.shown(ROW), ("again", [0, 1, 2]))
        self.assertEqual(book.many(), 3)

    def test_names_by_the_writings(self):
        webs = {"a": Web(["a"], []), "a(~0b)~0c": Web(["a", "b", "c"], both_ways([(0, 1), (0, 2)])),
                "a.b": Web(["a", "b"], []), "a<0b": Web(["a", "b"], [(1, 0, 0, True)]),
                "a>0b": Web(["a", "b"], [(0, 1, 0, True)]), "ab": Web(["ab"], []),
                "a{1}~0b~0c{1:~0}": Web(["a", "b", "c"], ring(0, 1, 2)), "a~0b": Web(["a", "b"], [(0, 1, 0, False)]),
                "a~10b": Web(["a", "b"], [(0, 1, 10, False)]), "a~9b": Web(["a", "b"], [(0, 1, 9, False)])}
        names = list("jihgfedcba")
        source = random.Random(94)
        for again in range(10):
            book = Webbook()
            pairs = list(zip(webs, names))
            source.shuffle(pairs)
            for text, name in pairs:
                self.assertEqual(book.note(webs[text], name), text)
            self.assertEqual(book.names(), names)
            book.strike(webs["a<0b"])
            self.assertEqual(book.names(), list("jihfedcba"))
            self.assertEqual(book.many(), 9)

    def test_books_know_nothing_of_each_other(self):
        one, other = Webbook(), Webbook()
        one.note(ROW, "row")
        self.assertEqual((other.many(), other.names(), other.name_of(ROW)), (0, [], None))
        other.note(STAR, "row")
        other.note(ROW, "star")
        self.assertEqual((one.name_of(ROW), other.name_of(ROW)), ("row", "star"))
        other.strike(ROW)
        self.assertEqual((one.many(), one.names()), (1, ["row"]))
        self.assertEqual(Webbook().many(), 0)


class KeptAsNoted(unittest.TestCase):
    def test_lists_that_the_web_was_made_of(self):
        kinds, ties = ["c", "o", "c"], [(0, 2, 1, False), (2, 1, 2, True)]
        web = Web(kinds, ties)
        book = Webbook()
        book.note(web, "it")
        kinds[0] = "z"
        kinds.append("c")
        ties.clear()
        self.assertEqual(book.shown(ROW), ("it", [0, 2, 1]))
        self.assertEqual(book.name_of(ROW), "it")
        self.assertIsNone(book.name_of(Web(kinds, ties)))

    def test_the_web_is_not_kept_itself(self):
        web = Web(["c", "o", "c"], [(0, 2, 1, False), (2, 1, 2, True)])
        book = Webbook()
        book.note(web, "it")
        web.kinds.reverse()
        web.ties.clear()
        web.joins.clear()
        self.assertEqual(book.shown(ROW), ("it", [0, 2, 1]))
        self.assertEqual(book.name_of(ROW), "it")

    def test_webs_are_left_as_they_were(self):
        source = random.Random(95)
        for web in webs_to_try(95, 10):
            like = turned_by_hand(web, random_order(source, web.size()))
            before = [list(each) for each in (web.kinds, web.ties, like.kinds, like.ties)]
            book = Webbook()
            book.note(web, "it")
            book.name_of(like)
            book.shown(like)
            pairing(web, like)
            book.strike(like)
            self.assertEqual([web.kinds, web.ties, like.kinds, like.ties], before)

    def test_lists_told_are_the_askers_own(self):
        book = Webbook()
        book.note(ROW, "row")
        book.note(STAR, "star")
        names, shown = book.names(), book.shown(ROW)
        names.clear()
        names.append("x")
        shown[1].reverse()
        self.assertEqual((book.names(), book.many()), (["star", "row"], 2))
        self.assertEqual(book.shown(ROW), ("row", [0, 1, 2]))
        names = book.names()
        book.strike(ROW)
        self.assertEqual(names, ["star", "row"])


class LongUse(unittest.TestCase):
    """A book used by chance, against a list of webs and names."""

    def setUp(self):
        self.source = random.Random(96)
        self.pool = random_webs(96, 8, 4) + woven_webs(96, 3) + list(named_webs().values())[:6]
        self.texts = [writing_by_hand(web) for web in self.pool]
        self.noted = []

    def at_hand(self, number):
        """The pair that an alike web stands in, or None."""
        for pair in self.noted:
            if self.texts[pair[0]] == self.texts[number]:
                return pair
        return None

    def note(self, book, number, web, name):
        due = None
        if not name.isalnum():
            due = BadName
        elif self.at_hand(number) or name in [pair[1] for pair in self.noted]:
            due = Twice
        if due is None:
            self.assertEqual(book.note(web, name), self.texts[number])
            self.noted.append((number, name, web))
        else:
            with self.assertRaises(due):
                book.note(web, name)

    def strike(self, book, number, web):
        pair = self.at_hand(number)
        if pair is None:
            with self.assertRaises(NoWeb):
                book.strike(web)
        else:
            self.assertEqual(book.strike(web), pair[1])
            self.noted.remove(pair)

    def look(self, book, number, web):
        pair = self.at_hand(number)
        self.assertEqual(book.name_of(web), pair and pair[1])
        if pair is None:
            self.assertIsNone(book.shown(web))
        else:
            name, order = book.shown(web)
            self.assertEqual(name, pair[1])
            self.assertTrue(same(turned_by_hand(pair[2], order), web))

    def test_by_chance(self):
        book = Webbook()
        for again in range(600):
            number = self.source.randrange(len(self.pool))
            web = self.pool[number]
            web = turned_by_hand(web, random_order(self.source, web.size()))
            if self.source.random() < 0.6:
                self.note(book, number, web, self.source.choice(["a", "b", "c1", "22", "d", "e", "a b"]))
            else:
                self.strike(book, number, web)
            self.look(book, number, web)
            by_text = sorted(self.noted, key=lambda pair: self.texts[pair[0]])
            self.assertEqual(book.names(), [pair[1] for pair in by_text])
            self.assertEqual(book.many(), len(self.noted))


if __name__ == "__main__":
    unittest.main()
