import random
import unittest

from tests.helping import TextMaker, refusal_by_hand, sorted_ties
from tieword import errors
from tieword.errors import BadText, TooGreat, WebError
from tieword.reading import read_web
from tieword.webs import Web

MOST = 10 ** 30 - 1


def told(text):
    web = read_web(text)
    return (web.kinds, web.ties)


def boughs(depth, ends):
    return "a" + "(~0a" * depth + ")" * ends


class Pieces(unittest.TestCase):
    def assert_read(self, text, kinds, ties):
        with self.subTest(text=text):
            self.assertIsInstance(read_web(text), Web)
            self.assertEqual(told(text), (kinds.split(), sorted_ties(ties)))
            self.assertIsNone(refusal_by_hand(text))

    def test_places(self):
        self.assert_read("a", "a", [])
        self.assert_read("z", "z", [])
        self.assert_read("az", "az", [])
        self.assert_read("abc", "abc", [])

    def test_marks(self):
        self.assert_read("a~5b", "a b", [(0, 1, 5, False)])
        self.assert_read("a>5b", "a b", [(0, 1, 5, True)])
        self.assert_read("a<5b", "a b", [(1, 0, 5, True)])
        self.assert_read("b<1a>2c", "b a c", [(1, 0, 1, True), (1, 2, 2, True)])

    def test_several_marks_in_any_order(self):
        ties = [(0, 1, 3, False), (0, 1, 2, True), (1, 0, 1, True), (0, 1, 3, False)]
        self.assert_read("a~3>2<1~3b", "a b", ties)
        self.assert_read("a<1~3~3>2b", "a b", ties)
        self.assertEqual(read_web("a<1~3~3>2b").between(0, 1), ((1, 2), (2, 1), (3, 0), (3, 0)))

    def test_numbers(self):
        for number in (0, 1, 9, 10, 100, 905, 10 ** 29, MOST, int("123456789" * 3 + "123")):
            for sign, tie in (("~", (0, 1, number, False)), (">", (0, 1, number, True)), ("<", (1, 0, number, True))):
                self.assert_read(f"a{sign}{number}b", "a b", [tie])
                self.assert_read(f"a{{1}}.b{{1:{sign}{number}}}", "a b", [tie])

    def test_runs(self):
        self.assert_read("a~1b~2c~3d", "a b c d", [(0, 1, 1, False), (1, 2, 2, False), (2, 3, 3, False)])
        self.assert_read("a.b", "a b", [])
        self.assert_read("c.a~1b.c>2a", "c a b c a", [(1, 2, 1, False), (3, 4, 2, True)])
        self.assert_read("g.f.e.d.c.b.a", "g f e d c b a", [])

    def test_boughs(self):
        self.assert_read("a(~1b)", "a b", [(0, 1, 1, False)])
        self.assert_read("a(>1b)<2c", "a b c", [(0, 1, 1, True), (2, 0, 2, True)])
        self.assert_read("a(~1b)(~2c)", "a b c", [(0, 1, 1, False), (0, 2, 2, False)])
        self.assert_read("a(~1b)(~2c)(~3d)~4e~5f", "a b c d e f",
                         [(0, 1, 1, False), (0, 2, 2, False), (0, 3, 3, False), (0, 4, 4, False), (4, 5, 5, False)])
        self.assert_read("a(~1b~2c)~3d", "a b c d", [(0, 1, 1, False), (1, 2, 2, False), (0, 3, 3, False)])
        self.assert_read("a~1b(~2c)~3d", "a b c d", [(0, 1, 1, False), (1, 2, 2, False), (1, 3, 3, False)])
        self.assert_read("a(~1>2b).c(<3d)", "a b c d", [(0, 1, 1, False), (0, 1, 2, True), (3, 2, 3, True)])

    def test_boughs_within_boughs(self):
        self.assert_read("a(~1b(~2c)~3d)~4e", "a b c d e",
                         [(0, 1, 1, False), (1, 2, 2, False), (1, 3, 3, False), (0, 4, 4, False)])
        self.assert_read("a(~1b(~2c(~3d))(~4e))(~5f)~6g", "a b c d e f g",
                         [(0, 1, 1, False), (1, 2, 2, False), (2, 3, 3, False), (1, 4, 4, False), (0, 5, 5, False),
                          (0, 6, 6, False)])
        self.assert_read("a(~1b~2c(~3d)~4e)~5f", "a b c d e f",
                         [(0, 1, 1, False), (1, 2, 2, False), (2, 3, 3, False), (2, 4, 4, False), (0, 5, 5, False)])
        self.assert_read(boughs(6, 6), "a a a a a a a", [(k, k + 1, 0, False) for k in range(6)])

    def test_rings(self):
        self.assert_read("a{1}~0b~0c{1:~5}", "a b c", [(0, 1, 0, False), (1, 2, 0, False), (0, 2, 5, False)])
        self.assert_read("a{1}.b{1:>5}", "a b", [(0, 1, 5, True)])
        self.assert_read("a{1}.b{1:<5}", "a b", [(1, 0, 5, True)])
        self.assert_read("a{1}.b{1:<5~4>3>3}", "a b",
                         [(1, 0, 5, True), (0, 1, 4, False), (0, 1, 3, True), (0, 1, 3, True)])
        self.assert_read("a{99}~0b{99:~1}", "a b", [(0, 1, 0, False), (0, 1, 1, False)])
        for number in (1, 2, 9, 10, 11, 50, 98, 99):
            self.assert_read(f"a{{{number}}}.b{{{number}:~7}}", "a b", [(0, 1, 7, False)])

    def test_rings_closed_in_another_run(self):
        self.assert_read("a{1}.b.c{1:>5}", "a b c", [(0, 2, 5, True)])
        self.assert_read("a~1b{3}.c~2d{3:<4}", "a b c d", [(0, 1, 1, False), (2, 3, 2, False), (3, 1, 4, True)])

    def test_rings_into_boughs_and_out_of_them(self):
        self.assert_read("a(~0b{1})~0c{1:>5}", "a b c", [(0, 1, 0, False), (0, 2, 0, False), (1, 2, 5, True)])
        self.assert_read("a{1}(~0b(~0c{1:>5}))", "a b c", [(0, 1, 0, False), (1, 2, 0, False), (0, 2, 5, True)])
        self.assert_read("a{1}(~0b).c{1:~2}~3d", "a b c d", [(0, 1, 0, False), (0, 2, 2, False), (2, 3, 3, False)])

    def test_ring_signs_in_any_order(self):
        ties = [(0, 1, 0, False), (1, 2, 0, False), (2, 3, 0, False), (0, 2, 5, True), (2, 3, 6, True), (3, 0, 7, True)]
        for first in ("{1}{3}", "{3}{1}"):
            for third in ("{1:>5}{2}", "{2}{1:>5}"):
                for fourth in ("{2:>6}{3:<7}", "{3:<7}{2:>6}"):
                    self.assert_read(f"a{first}~0b~0c{third}~0d{fourth}", "a b c d", ties)

    def test_several_rings_and_marks_between_two_places(self):
        self.assert_read("a{1}{2}{30}~5>6b{2:~5}{30:<6}{1:>6~5}", "a b",
                         [(0, 1, 5, False)] * 3 + [(0, 1, 6, True)] * 2 + [(1, 0, 6, True)])
        self.assert_read("a{1}{2}~5b{1:~5}{2:~5}", "a b", [(0, 1, 5, False)] * 3)

    def test_text_that_is_no_web_s_own_writing(self):
        self.assert_read("b(~0a)", "b a", [(0, 1, 0, False)])
        self.assert_read("c~9a(~8b)", "c a b", [(0, 1, 9, False), (1, 2, 8, False)])


class BadTexts(unittest.TestCase):
    def assert_bad(self, *texts):
        for text in texts:
            with self.subTest(text=text):
                for refusal in (BadText, WebError):
                    with self.assertRaises(refusal):
                        read_web(text)
                self.assertEqual(refusal_by_hand(text), "BadText")

    def test_no_text_and_blanks(self):
        self.assert_bad("", " ", "  ", " a", "a ", "a b", "a ~0b", "a~ 0b", "a~0 b", "a{ 1}.b{1:~0}", "a{1 }.b{1:~0}",
                        "a{1} .b{1:~0}", "a. b", "a .b", "a( ~0b)", "a(~0b )", "a(~0b) ~0c", "a{1}.b{1: ~0}",
                        "a{1}.b{1 :~0}", "a\n", "\na", "a.\nb", "a\t")

    def test_kinds(self):
        self.assert_bad("A", "aB", "Abc", "a~0B", "abcd", "abcdefg", "a~0abcd", "a.abcd", "1", "a1", "1a", "a_", "-",
                        "a-b", "a`", "`", "|", "\u00e9", "a~0\u00e9", "a\u00df", "\u03b1")

    def test_other_signs(self):
        for code in range(ord(" "), ord("~") + 1):
            sign = chr(code)
            if not "a" <= sign <= "z":
                self.assert_bad(sign, sign + "a", "a" + sign, sign + "a~0b", "a~0b" + sign)
            if not "0" <= sign <= "9":
                self.assert_bad(f"a~{sign}b", f"a{{{sign}}}.b{{{sign}:~0}}", f"a{{1}}.b{{1:{sign}}}")
            if sign not in "<>~":
                self.assert_bad(f"a{sign}0b", f"a({sign}0b)", f"a{{1}}.b{{1:{sign}0}}")

    def test_marks(self):
        self.assert_bad("a~b", "a>b", "a<b", "a~", "a~0", "a~0~", "a~~0b", "a~0~b", "a~0>b", "~0a", "~0", "a0b",
                        "a~-1b", "a~+1b", "a~0", "a~0.b", "a~0(~0b)", "a~1.5b", "a~0b~", "a~0b~0", "a=0b",
                        "a~1_0b", "a~xb", "a{1}.b{1:~}", "a{1}.b{1:>}", "a{1}.b{1:~0<}", "a{1}.b{1:~0:~0}",
                        "a{1}.b{1:~0,~0}")

    def test_a_nought_ahead_of_figures(self):
        self.assert_bad("a~00b", "a~01b", "a>007b", "a<0" + "1" * 29 + "b", "a~" + "0" * 30 + "b", "a~1~02b",
                        "a{1}.b{1:~01}", "a{01}.b{01:~0}", "a{1}.b{01:~0}", "a{01}.b{1:~0}", "a{00}.b{00:~0}")

    def test_thirty_one_figures(self):
        self.assert_bad(f"a~{10 ** 30}b", "a>" + "9" * 31 + "b", "a<" + "1" * 32 + "b", "a~" + "5" * 590 + "b",
                        f"a{{1}}.b{{1:~{10 ** 30}}}", f"a~1~{10 ** 30}b", "a~" + "0" * 31 + "b")

    def test_figures_of_other_writings(self):
        self.assert_bad("a~\u0661b", "a~1\u0662b", "a~\u00b2b", "a{\u0661}.b{\u0661:~0}")

    def test_rings_0_and_100(self):
        self.assert_bad("a{0}.b{0:~0}", "a{100}.b{100:~0}", "a{999}.b{999:~0}", "a{-1}.b{-1:~0}",
                        f"a{{{10 ** 29}}}.b{{{10 ** 29}:~0}}", f"a{{{10 ** 30}}}.b{{{10 ** 30}:~0}}",
                        "a{0}.b", "a{100}.b", "a.b{0:~0}", "a{1}.b{1:~0}{0}.c{0:~0}")

    def test_ring_signs_of_no_form(self):
        self.assert_bad("a{}", "a{", "a}", "a{1", "a{1}.b{1:~0", "a{1}.b{1:}", "a{1}.b{1~0}", "a{1}.b{:~0}",
                        "a{1:.b{1:~0}", "a{:~0}.b", "a{1}}.b{1:~0}", "a{{1}.b{1:~0}", "a{1}.b{1:~0}}", "a(1).b",
                        "a{a}.b{a:~0}", "{1}a.b{1:~0}", "a{1}b{1:~0}", "a~0{1}b.c{1:~0}", "a{1}.b{1:~0c}",
                        "a{1,2}.b{1:~0}{2:~0}", "a{1}.b{1:(~0)}", "a{~0:1}.b{1}")

    def test_ring_opened_twice(self):
        self.assert_bad("a{1}{1}.b{1:~0}", "a{1}.b{1}.c{1:~0}", "a{1}.b{1:~0}.c{1}", "a{1}.b{1:~0}{1}.c{1:~0}",
                        "a{1}~0b{1:~0}~0c{1}~0d{1:~0}", "a{1}{1}.b{1:~0}{1:~0}")

    def test_ring_closed_twice(self):
        self.assert_bad("a{1}.b{1:~0}{1:~0}", "a{1}.b{1:~0}.c{1:~0}", "a{1}~0b{1:~0}~0c{1:~1}")

    def test_ring_never_closed(self):
        self.assert_bad("a{1}", "a{1}~0b", "a{1}{2}~0b{1:~0}", "a{1}{2}~0b{2:~0}", "a~0b{99}", "a.b{1}",
                        "a{1}.b{2:~0}", "a{1}.b{11:~0}", "a{11}.b{1:~0}")

    def test_ring_closed_ahead_of_its_opening_or_never_opened(self):
        self.assert_bad("a{1:~0}.b{1}", "a{1:~0}~0b{1}", "a~0b{1:~0}", "a{1:~0}", "a{1:~0}{1}.b",
                        "a{1:~0}.b{1}.c{1:~0}", "a{1:~0}.b{1}{1:~0}", "a~0b{1:~0}.c{1}")

    def test_ring_closed_at_its_own_place(self):
        self.assert_bad("a{1}{1:~0}", "a{1}{1:~0}~0b", "a{1:~0}{1}", "a~0b{2}{2:>1}", "a{1}{2}{1:~0}.b{2:~0}",
                        "a{1}{1:~0}.b{1:~0}")

    def test_ring_signs_behind_a_bough(self):
        self.assert_bad("a(~0b){1}.c{1:~0}", "a{1}(~0b)~0c(~0d){1:~0}", "a{1}(~0b){2}.c{1:~0}{2:~0}",
                        "a{1}.b(~0c){1:~0}", "a{1}(~0b{2}){2:~0}.c{1:~0}")

    def test_boughs(self):
        self.assert_bad("a(", "a(~0b", "a(~0b(~0c)", "a(~0b(~0c", "a)", "a(~0b))", "a~0b)", ")a", "(a)", "(~0a)", "a()",
                        "a(b)", "a(~0)", "a(~0b)c", "a((~0b))", "a(~0(~0b))", "a(~0b()~0c)", "a((~0b)~0c)", "a(~0b.c)",
                        "a(~0b.)", "a(.b)", "a(~0b)~0(~0c)", "a(~0b)~0", "(~0a)b", "a.(~0b)", "a[~0b]", "a(~0b]", "()",
                        "a(~0b(~0c).d)", "a(~0b).c)", "a(~0b.c~0d)", "a(~0b{1).c{1:~0}", "a{1(}~0b)")

    def test_dots(self):
        self.assert_bad(".", ".a", "a.", "a..b", "..", "a.b.", ".a.b", "a~0.b", "a.~0b", "a~0b.", "a,b", "a(~0b).",
                        "a{1}.b{1:~0}.")


class TooGreatTexts(unittest.TestCase):
    def assert_too_great(self, *texts):
        for text in texts:
            with self.subTest(text=text):
                for refusal in (TooGreat, WebError):
                    with self.assertRaises(refusal):
                        read_web(text)
                self.assertEqual(refusal_by_hand(text), "TooGreat")

    def assert_bad(self, *texts):
        for text in texts:
            with self.subTest(text=text):
                with self.assertRaises(BadText):
                    read_web(text)

    def test_seven_places_and_eight(self):
        for dot in (".", "~0", ">5"):
            self.assertEqual(read_web(dot.join("abcdefg")).kinds, list("abcdefg"))
            self.assert_too_great(dot.join("abcdefgh"), dot.join("a" * 9), dot.join("a" * 100))
        self.assertEqual(len(read_web("a" + "(~0b)" * 6).kinds), 7)
        self.assert_too_great("a" + "(~0b)" * 7, "a(~0b)(~0c)~0d.e.f.g.h")

    def test_twelve_ties_and_thirteen(self):
        for mark in ("~0", ">1", "<2"):
            self.assertEqual(len(read_web("a" + mark * 12 + "b").ties), 12)
            self.assert_too_great("a" + mark * 13 + "b", "a" + mark * 200 + "b")
            self.assertEqual(len(read_web("a{1}.b{1:" + mark * 12 + "}").ties), 12)
            self.assert_too_great("a{1}.b{1:" + mark * 13 + "}", "a{1}" + mark * 6 + "b{1:" + mark * 7 + "}")
            self.assertEqual(len(read_web("a{1}" + mark * 6 + "b{1:" + mark * 6 + "}").ties), 12)
        rings = "".join(f"{{{number}}}" for number in range(88, 100))
        closed = "".join(f"{{{number}:~0}}" for number in range(88, 100))
        self.assertEqual(len(read_web(f"a{rings}.b{closed}").ties), 12)
        self.assert_too_great(f"a{rings}~0b{closed}")
        self.assert_too_great(f"a{rings}{{1}}.b{{1:~0}}{closed}")

    def test_many_rings(self):
        rings = "".join(f"{{{number}}}" for number in range(1, 50))
        closed = "".join(f"{{{number}:~0}}" for number in range(1, 50))
        self.assert_too_great(f"a{rings}.b{closed}")
        self.assert_bad(f"a{rings}.b{closed}{{50}}")

    def test_bad_is_told_ahead_of_too_great(self):
        eight = "~0".join("abcdefgh")
        thirteen = "a" + "~0" * 13 + "b"
        for text in (eight, thirteen, ".".join("a" * 20)):
            self.assert_too_great(text)
            self.assert_bad(text + ".", text + "(", text + ")", text + "{1}", text + "~0", text + "~01c", text + " ",
                            text + "{1:~0}", text + "{0}", text + "(~0a", text + ".abcd", text + "{1}{1:~0}",
                            "a{1}." + text, "A." + text, "." + text, text + "{1}.a{1:~0}{1:~0}", text + "Z")
        self.assert_bad("a" + "~0" * 13, "a" + "(~0a" * 7 + ")" * 6, "a" + "(~0a" * 7 + ")" * 8)

    def test_depth_of_boughs(self):
        self.assertEqual(len(read_web(boughs(6, 6)).ties), 6)
        for depth in (7, 50, 101, 119, 500, 3000):
            self.assertTrue(depth > 119 or len(boughs(depth, depth)) <= 600)
            with self.assertRaises(TooGreat):
                read_web(boughs(depth, depth))
            self.assert_bad(boughs(depth, depth - 1), boughs(depth, depth + 1), boughs(depth, 0), "a" + "(" * depth,
                            boughs(depth, depth) + "{1}", boughs(depth, depth) + ".")
        self.assert_bad("(" * 600, ")" * 600, "a" + ")" * 599)

    def test_long_texts(self):
        text = "a{1}" + f"~{MOST}" * 6 + "b{1:" + f"<{MOST}" * 6 + "}.ccc.ddd.eee.fff.ggg"
        self.assertEqual(read_web(text).between(0, 1), ((MOST, 0),) * 6 + ((MOST, 2),) * 6)
        self.assert_too_great("a" + f"~{MOST}" * 19 + "b")


class ByChance(unittest.TestCase):
    def test_what_is_written_is_read(self):
        source = random.Random(60)
        read = 0
        for again in range(600):
            maker = TextMaker(source, source.randint(1, 8))
            maker.add_rings(source.choice([0, 2, 4]))
            text = maker.text()
            if len(maker.kinds) > 7 or len(maker.ties) > 12:
                self.assertEqual(refusal_by_hand(text), "TooGreat", text)
                with self.assertRaises(TooGreat, msg=text):
                    read_web(text)
            else:
                read += 1
                self.assertIsNone(refusal_by_hand(text), text)
                self.assertEqual(told(text), (maker.kinds, sorted_ties(maker.ties)), text)
        self.assertGreater(read, 300)

    def test_texts_with_some_signs_changed(self):
        source = random.Random(61)
        seen = {None: 0, "BadText": 0, "TooGreat": 0}
        for again in range(4000):
            maker = TextMaker(source, source.choice([1, 2, 4, 6, 7, 9]), 1)
            maker.add_rings(3)
            signs = list(maker.text())
            for change in range(source.randint(1, 3)):
                at = source.randrange(len(signs) + 1)
                signs[at:at + source.randint(0, 1)] = source.choice(["", *"ab~><(){}:.0199", "{1}", "{1:~0}", "~0a"])
            text = "".join(signs)
            refusal = refusal_by_hand(text)
            seen[refusal] += 1
            if refusal:
                with self.assertRaises(getattr(errors, refusal), msg=text):
                    read_web(text)
            else:
                read_web(text)
        for many in seen.values():
            self.assertGreater(many, 50)


class NothingKept(unittest.TestCase):
    def test_webs_told_are_the_askers_own(self):
        text = "a{1}~0b.c{1:>2}"
        one, other = read_web(text), read_web(text)
        one.kinds.clear()
        one.ties.clear()
        self.assertEqual((other.kinds, other.ties), (["a", "b", "c"], [(0, 1, 0, False), (0, 2, 2, True)]))
        self.assertEqual(told(text), (["a", "b", "c"], [(0, 1, 0, False), (0, 2, 2, True)]))

    def test_what_was_refused_leaves_nothing_behind(self):
        with self.assertRaises(BadText):
            read_web("a{1}~0b")
        with self.assertRaises(BadText):
            read_web("c{1:~0}")
        self.assertEqual(told("a{1}.b{1:~0}"), (["a", "b"], [(0, 1, 0, False)]))


if __name__ == "__main__":
    unittest.main()
