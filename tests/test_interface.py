"""The document's interface: its names, arguments and kinds, and what holds over the whole program."""

import importlib
import inspect
import random
import unittest

from tests.helping import (both_ways, named_webs, random_order, random_webs, ring, turned_by_hand, turnings_by_hand,
                           ways_by_hand, within)
from tieword import errors
from tieword.books import Webbook
from tieword.reports import report
from tieword.rules import Rule, outcomes, rule_turnings, rule_ways
from tieword.ways import all_ways, lies_in, spots
from tieword.webs import Web

REFUSALS = ["TooGreat", "BadPlace", "BadTie", "BadOrder", "TooMany", "BadText", "BadName", "Twice", "NoWeb", "BadRule",
            "NoWay"]

# By file, each name with its arguments and with the kind of what it tells.
FUNCTIONS = {
    "webs": {"turned": ("web order", Web), "is_pairing": ("one other order", bool), "parts_of": ("web", [[int]])},
    "parting": {"ranked": ("keys", [int]), "keys_of": ("web parting", [tuple]), "finer": ("web parting", [int]),
                "settled": ("web parting", [int]), "first_parting": ("web", [int]),
                "chosen": ("web parting place", [int]), "rounds_of": ("web parting", [[int]]),
                "open_class": ("parting", [int])},
    "search": {"row_of": ("web order", tuple), "searched": ("web", ([int], [int], [[int]])),
               "least_order": ("web", [int]), "least_row": ("web", tuple)},
    "turnings": {"is_turning": ("web turning", bool), "stay": ("size", [int]), "both": ("one other", [int]),
                 "back": ("one", [int]), "made_of": ("size turnings", [[int]]),
                 "orbits_of": ("size turnings", [[int]])},
    "groups": {"few_turnings": ("web", [[int]]), "all_turnings": ("web", [[int]]), "count_turnings": ("web", int),
               "orbits": ("web", [[int]])},
    "reading": {"read_web": ("text", Web)},
    "writing": {"written": ("web", str), "written_order": ("web", [int])},
    "books": {"pairing": ("one other", [int])},
    "ways": {"is_way": ("small great way", bool), "all_ways": ("small great", [[int]]),
             "lies_in": ("small great", bool), "spots": ("small great", [[int]])},
    "rules": {"change": ("rule web way", Web), "outcomes": ("rule web", [str]), "rule_turnings": ("rule", [[int]]),
              "rule_ways": ("rule web", [[int]])},
    "reports": {"report": ("text", str)},
}
CLASSES = {
    "webs": {"Web": ("kinds ties", {"size": "", "between": "one other", "near": "place"})},
    "books": {"Webbook": ("", {"note": "web name", "name_of": "web", "shown": "web", "strike": "web", "names": "",
                               "many": ""})},
    "rules": {"Rule": ("left right kept", {})},
}


def told(file, name):
    return getattr(importlib.import_module(f"tieword.{file}"), name)


def is_of(value, kind):
    if isinstance(kind, list):
        return type(value) is list and all(is_of(each, kind[0]) for each in value)
    if isinstance(kind, tuple):
        return type(value) is tuple and len(value) == len(kind) and all(map(is_of, value, kind))
    return type(value) is kind


def picture(value):
    """All that is to be read of a value, as a value of its own."""
    if isinstance(value, Web):
        pairs = [[value.between(one, other) for other in range(value.size()) if other != one]
                 for one in range(value.size())]
        return ("web", picture(value.kinds), picture(value.ties), pairs)
    if isinstance(value, Rule):
        return ("rule", picture(value.left), picture(value.right), value.kept)
    if isinstance(value, (list, tuple)):
        return (type(value).__name__, [picture(each) for each in value])
    return value


def spoil(value):
    """Changes each list of a value, the inner ones first; fields of objects are left alone."""
    if isinstance(value, (list, tuple)):
        for each in value:
            spoil(each)
    if isinstance(value, list):
        value.reverse()
        value.append(value[0] if value else 0)


class Interface(unittest.TestCase):
    def arguments(self, function):
        return " ".join(inspect.signature(function).parameters)

    def test_functions(self):
        for file, names in FUNCTIONS.items():
            for name, (arguments, kind) in names.items():
                with self.subTest(file=file, name=name):
                    self.assertEqual(self.arguments(told(file, name)), arguments)

    def test_classes(self):
        for file, names in CLASSES.items():
            for name, (arguments, methods) in names.items():
                self.assertEqual(self.arguments(told(file, name)), arguments)
                for method, more in methods.items():
                    with self.subTest(name=name, method=method):
                        self.assertEqual(self.arguments(getattr(told(file, name), method)), f"self {more}".strip())

    def test_errors(self):
        found = [value for value in vars(errors).values() if isinstance(value, type)]
        self.assertEqual({value.__name__ for value in found}, set(REFUSALS) | {"WebError"})
        for name in REFUSALS:
            # Straight under WebError, so that none stands under another.
            self.assertEqual(getattr(errors, name).__bases__, (errors.WebError,))
        self.assertEqual(errors.WebError.__bases__, (ValueError,))


def arguments_for(source, web):
    """By name of an argument, a function that makes something to hand in, anew each time; all fit one another."""
    size = web.size()
    order = random_order(source, size)
    small, way = within(source, web, source.randint(1, min(3, size)))
    turnings = [list(turning) for turning in sorted(turnings_by_hand(web))[:5]]
    kept = source.randint(0, small.size())
    text = ".".join(web.kinds)

    def again(what):
        return Web(list(what.kinds), list(what.ties))

    # Left may be the small web in all its calls; right is it again, with new kinds.
    return {
        "web": lambda: again(web), "one": lambda: again(web), "other": lambda: turned_by_hand(web, order),
        "order": lambda: list(order), "keys": lambda: list(web.kinds), "parting": lambda: [0] * size,
        "place": lambda: size - 1, "turning": lambda: list(turnings[-1]), "size": lambda: size,
        "turnings": lambda: [list(turning) for turning in turnings], "text": lambda: text,
        "small": lambda: again(small), "great": lambda: again(web), "way": lambda: list(way),
        "rule": lambda: Rule(again(small), Web(["q"] * small.size(), []), kept),
    }


def calls(seed, many):
    """Each function of the interface with things to hand in, made of several webs."""
    source = random.Random(seed)
    webs = [web for web in random_webs(seed, many, 6)] + [named_webs()["ring of six"], named_webs()["ties manifold"]]
    for web in webs:
        if len(turnings_by_hand(web)) > 120:
            continue
        for file, names in FUNCTIONS.items():
            for name, (arguments, kind) in names.items():
                make = arguments_for(source, web)
                if name in ("both", "back"):
                    make["one"] = make["other"] = make["turning"]
                yield name, told(file, name), [make[argument] for argument in arguments.split()], kind


class OverTheWholeProgram(unittest.TestCase):
    def test_kinds(self):
        for name, function, make, kind in calls(130, 15):
            self.assertTrue(is_of(function(*[each() for each in make]), kind), name)

    def test_nothing_handed_in_is_changed(self):
        for name, function, make, kind in calls(131, 15):
            handed = [each() for each in make]
            before = picture(handed)
            function(*handed)
            self.assertEqual(picture(handed), before, name)

    def test_what_is_told_is_the_askers_own(self):
        for name, function, make, kind in calls(132, 15):
            handed = [each() for each in make]
            before = picture(handed)
            answer = function(*handed)
            first = picture(answer)
            if not isinstance(answer, Web):
                spoil(answer)
            self.assertEqual(picture(handed), before, name)
            self.assertEqual(picture(function(*handed)), first, name)
            self.assertEqual(picture(function(*[each() for each in make])), first, name)

    def test_lists_told_are_not_one_another(self):
        for name, function, make, kind in calls(133, 15):
            answer = function(*[each() for each in make])
            if isinstance(answer, (list, tuple)):
                inner = [each for each in answer if isinstance(each, list)]
                self.assertEqual(len({id(each) for each in inner}), len(inner), name)

    def test_what_was_told_stays(self):
        for name, function, make, kind in calls(134, 15):
            handed = [each() for each in make]
            answer = function(*handed)
            first = picture(answer)
            # Neither what the asker does with the lists handed in nor what is asked later changes it.
            spoil(handed)
            function(*[each() for each in make])
            self.assertEqual(picture(answer), first, name)

    def test_no_web_told_is_the_one_handed_in(self):
        for name, function, make, kind in calls(135, 10):
            handed = [each() for each in make]
            answer = function(*handed)
            if isinstance(answer, Web):
                for each in handed:
                    self.assertIsNot(answer, each, name)
                    if isinstance(each, Web):
                        self.assertIsNot(answer.kinds, each.kinds, name)
                        self.assertIsNot(answer.ties, each.ties, name)


class SameForAlikeWebs(unittest.TestCase):
    """What is told of a web that is no number of a place."""

    def setUp(self):
        source = random.Random(136)
        self.pairs = []
        for web in random_webs(136, 25, 6) + [named_webs()["ring of six"], named_webs()["ties manifold"]]:
            small = within(source, web, min(3, web.size()))[0]
            if len(ways_by_hand(small, web)) <= 720:
                self.pairs.append([(each, turned_by_hand(each, random_order(source, each.size())))
                                   for each in (web, small)])

    def test_ways_and_spots(self):
        for (web, like), (small, other) in self.pairs:
            self.assertEqual(lies_in(small, web), lies_in(other, like))
            self.assertEqual(lies_in(web, small), lies_in(like, other))
            self.assertEqual(len(all_ways(small, web)), len(all_ways(other, like)))
            self.assertEqual(len(spots(small, web)), len(spots(other, like)))

    def test_rules(self):
        for (web, like), (small, other) in self.pairs:
            # The rule's own webs stay, since their first places are the kept ones.
            rule = Rule(small, Web(["q", "r"], [(0, 1, 4, True)]), 1)
            self.assertEqual(outcomes(rule, web), outcomes(rule, like))
            self.assertEqual(len(rule_ways(rule, web)), len(rule_ways(rule, like)))
            # Nothing kept, and the webs of the rule are alike.
            for right in (web, like):
                some = Rule(small, right, 0), Rule(other, right, 0)
                self.assertEqual(outcomes(some[0], web), outcomes(some[1], like))
                self.assertEqual(len(rule_turnings(some[0])), len(rule_turnings(some[1])))

    def test_books(self):
        books = Webbook(), Webbook()
        for number, ((web, like), small) in enumerate(self.pairs):
            self.assertEqual(books[0].name_of(web), books[1].name_of(like))
            if books[0].name_of(web) is None:
                self.assertEqual(books[0].note(web, f"n{number}"), books[1].note(like, f"n{number}"))
        self.assertEqual(books[0].names(), books[1].names())
        self.assertGreater(books[0].many(), 15)

    def test_reports(self):
        book = Webbook()
        for (web, like), small in self.pairs:
            text = book.note(web, "it")
            self.assertEqual(report(text), report(Webbook().note(like, "it")))
            book.strike(like)

    def test_far_from_alike(self):
        one = Web(["a"] * 6, ring(0, 1, 2) + ring(3, 4, 5))
        other = Web(["a"] * 6, ring(0, 1, 2, 3, 4, 5))
        row = Web(["a"] * 3, both_ways([(0, 1), (1, 2)]))
        self.assertEqual((len(spots(row, one)), len(spots(row, other))), (6, 6))
        self.assertNotEqual(outcomes(Rule(row, row, 0), one), outcomes(Rule(row, row, 0), other))


if __name__ == "__main__":
    unittest.main()
