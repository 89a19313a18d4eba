import itertools
import random
import unittest

from tests.helping import (TextMaker, bare, is_alike_by_hand, named_webs, orbits_by_hand, random_order, random_webs,
                           refusal_by_hand, turned_by_hand, turnings_by_hand, woven_webs, written_by_hand)
from tieword import errors
from tieword.reading import read_web
from tieword.reports import report
from tieword.webs import Web
from tieword.writing import written


def report_by_hand(web):
    text, order = written_by_hand(web)
    rows = [f"web {text}", f"turnings {len(turnings_by_hand(web))}"]
    for orbit in orbits_by_hand(turned_by_hand(web, order)):
        rows.append("orbit" + "".join(f" {place}" for place in orbit))
    return "\n".join(rows)


def webs_to_try(seed, many):
    return list(named_webs().values()) + random_webs(seed, many) + woven_webs(seed, 10)


class ByTheLetter(unittest.TestCase):
    def test_one_place(self):
        self.assertEqual(report("a"), "web a\nturnings 1\norbit 0")
        self.assertEqual(report("xyz"), "web xyz\nturnings 1\norbit 0")

    def test_one_orbit(self):
        self.assertEqual(report("a~5a"), "web a~5a\nturnings 2\norbit 0 1")
        self.assertEqual(report("a{1}~0a~0a{1:~0}"), "web a{1}~0a~0a{1:~0}\nturnings 6\norbit 0 1 2")
        self.assertEqual(report("b.b.b.b.b.b.b"), "web b.b.b.b.b.b.b\nturnings 5040\norbit 0 1 2 3 4 5 6")

    def test_several_orbits(self):
        self.assertEqual(report("b>5a"), "web a<5b\nturnings 1\norbit 0\norbit 1")
        self.assertEqual(report("o<2c~1c"), "web c~1c>2o\nturnings 1\norbit 0\norbit 1\norbit 2")
        self.assertEqual(report("b.a.b.a"), "web a.a.b.b\nturnings 4\norbit 0 1\norbit 2 3")

    def test_places_are_told_as_they_stand_in_the_writing(self):
        # Three places a around one b, which stands second in the writing, wherever it stands in the text.
        rows = "web a~0b(~0a)~0a\nturnings 6\norbit 0 2 3\norbit 1"
        for text in ("b(~0a)(~0a)~0a", "a~0b(~0a)~0a", "a~0b(~0a)(~0a)"):
            self.assertEqual(report(text), rows)
        # A row of four: the end that is written first, then the place near it, and so on.
        self.assertEqual(report("c(~0c)~0c~0c"), "web c~0c~0c~0c\nturnings 2\norbit 0 3\norbit 1 2")

    def test_of_several_parts(self):
        self.assertEqual(report("a{1}~0a~0a{1:~0}.a{2}~0a~0a~0a{2:~0}"),
                         "web a{1}~0a~0a~0a{1:~0}.a{2}~0a~0a{2:~0}\nturnings 48\norbit 0 1 2 3\norbit 4 5 6")

    def test_no_line_feed_at_the_end(self):
        for web in webs_to_try(120, 20):
            told = report(written(web))
            self.assertIsInstance(told, str)
            self.assertFalse(told.endswith("\n"))
            rows = told.split("\n")
            self.assertTrue(all(row and row == row.strip() and "  " not in row for row in rows))
            self.assertEqual([row.split(" ")[0] for row in rows], ["web", "turnings"] + ["orbit"] * (len(rows) - 2))


class ByTheWords(unittest.TestCase):
    def test_of_many_webs(self):
        for web in webs_to_try(121, 120):
            self.assertEqual(report(written(web)), report_by_hand(web))

    def test_of_many_texts(self):
        source = random.Random(122)
        for again in range(150):
            maker = TextMaker(source, source.randint(1, 7), 1)
            maker.add_rings(4)
            if len(maker.ties) <= 12:
                self.assertEqual(report(maker.text()), report_by_hand(Web(maker.kinds, maker.ties)))

    def test_more_than_720_turnings_are_counted(self):
        self.assertEqual(report(written(bare(7))), report_by_hand(bare(7)))


def text_of(web):
    """A text of a web in the order of its own places: each tie is a ring."""
    signs = [[] for place in web.kinds]
    for number, (one, other, kind, oneway) in enumerate(web.ties, 1):
        ahead, behind = min(one, other), max(one, other)
        mark = "~" if not oneway else ">" if one == ahead else "<"
        signs[ahead].append(f"{{{number}}}")
        signs[behind].append(f"{{{number}:{mark}{kind}}}")
    return ".".join(kind + "".join(each) for kind, each in zip(web.kinds, signs))


class OneReport(unittest.TestCase):
    def test_texts_of_alike_webs(self):
        source = random.Random(123)
        for web in webs_to_try(123, 40):
            told = report(text_of(web))
            self.assertEqual(told, report_by_hand(web))
            for again in range(3):
                like = turned_by_hand(web, random_order(source, web.size()))
                self.assertEqual(report(text_of(like)), told)

    def test_same_just_when_alike(self):
        webs = random_webs(124, 60, 4) + woven_webs(124, 20) + list(named_webs().values())
        told = [report(text_of(web)) for web in webs]
        for one, other in itertools.combinations(range(len(webs)), 2):
            self.assertEqual(told[one] == told[other], is_alike_by_hand(webs[one], webs[other]))


class Refused(unittest.TestCase):
    def test_by_the_letter(self):
        for text in ("", " ", "A", "abcd", "a~", "a~0", "a~00a", "a{1}", "a{0}~0a{0:~0}", "a(~0a", "a)", "a.", ".a",
                     "a b", "a{1}~0a{1:~0}{1:~0}", "a~1" + "0" * 30 + "a", "a\n", "web a", "a.a.a.a.a.a.a.a."):
            for refusal in (errors.BadText, errors.WebError):
                with self.assertRaises(refusal, msg=text):
                    report(text)
        for text in ("a.a.a.a.a.a.a.a", "a" + "~0" * 13 + "a"):
            for refusal in (errors.TooGreat, errors.WebError):
                with self.assertRaises(refusal, msg=text):
                    report(text)

    def test_as_read_web_refuses(self):
        source = random.Random(125)
        many = {"BadText": 0, "TooGreat": 0, None: 0}
        for again in range(400):
            maker = TextMaker(source, source.randint(1, 9), 2)
            maker.add_rings(4)
            text = maker.text()
            if source.random() < 0.5:
                at = source.randrange(len(text))
                text = text[:at] + source.choice(["", "a", "~", "{", "}", "(", ")", ".", "1", " "]) + text[at + 1:]
            due = refusal_by_hand(text)
            many[due] += 1
            if due is None:
                self.assertEqual(report(text).split("\n")[0], "web " + written(read_web(text)))
            else:
                with self.assertRaises(getattr(errors, due), msg=text):
                    report(text)
        self.assertGreater(min(many.values()), 30)


if __name__ == "__main__":
    unittest.main()
