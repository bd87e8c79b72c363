"""[19]: claims and papers of things of any kind: False of what is written otherwise, never an error."""

import ast
import copy
import unittest
from pathlib import Path

from soundrules.checker import holds
from soundrules.machines import least_machine
from soundrules.things import is_machine
from tests.helper import (
    ODD_THINGS, TWO, Dice, all_words, deep, naive_machine, naive_made, naive_table, naive_table_papers, naive_word_papers, rule)

PACKAGE = Path(__file__).resolve().parent.parent / "soundrules"
STAGES_5_TO_11 = {"machines", "likeness", "sources", "tworules", "orderings", "books", "daughters"}
NAMES = ["makes", "machine", "alike", "parted", "no source", "endless", "no common", "acts", "never", "makes way", "takes",
         "no way", "no taking", "quarrel"]

FALL = rule("along", "a>", "a", None)
PUT = rule("once", ">b", "a", "#")
DROP = rule("once", "b>")
MIXED = rule("once", "a>b b>", "#a", "b")


def one_of_each():
    """Of each kind one true claim with its right paper, of either side."""
    told = {}
    for one, other in ((("left", (FALL, PUT)), ("left", (MIXED, FALL))), (("right", (PUT, FALL)), ("right", (FALL, MIXED))),
                       (("left", (FALL, rule("once", "a>b", "a", None))), ("left", (DROP,))),
                       (("right", (rule("once", "a>"), rule("once", "a>b", "a", None))), ("right", (FALL,))),
                       (("left", (DROP,)), ("left", (FALL,))), (("right", (DROP,)), ("right", (rule("once", "a>b", "a"),)))):
        papers = naive_word_papers(TWO, one, other, ["ab", "aab", "aba"])
        papers += naive_table_papers(TWO, one, other, ["b", "bb", "aa"])
        machine = least_machine(TWO, one)
        papers.append((("alike", TWO, one, one), (machine,) + (naive_table(TWO, one, machine),) * 2))
        for claim, paper in papers:
            told.setdefault((claim[0], one[0]), (claim, paper))
    return told


RIGHT = one_of_each()


def wrong_for(thing):
    """Things that are written otherwise than this one wherever it may stand."""
    if isinstance(thing, bool):
        return [int(thing), None, str(thing), [thing], (thing,)]
    if isinstance(thing, int):
        wrong = [-1, -1 - thing, 10 ** 40, -10 ** 40, str(thing), None, [thing], (thing,), {thing: thing}]
        return wrong + ([bool(thing)] if thing in (0, 1) else [])
    if isinstance(thing, str):
        return [list(thing), tuple(thing) + (thing,), None, 0, True, False, thing + "~", thing + "#", "A" + thing, {thing: 1}, 7]
    if thing is None:
        return [(), [], {}, False, True, 0, "", "#", "*", [None], (None,)]
    return [list(thing), dict(enumerate(thing)), {thing: 1}, str(thing), len(thing), True, thing + (None,),
            thing + ([],), (thing, thing)]


def with_one_changed(thing, change):
    """All things that come about by changing one place of this one."""
    told = change(thing)
    if isinstance(thing, tuple):
        for at, part in enumerate(thing):
            told = told + [thing[:at] + (new,) + thing[at + 1:] for new in with_one_changed(part, change)]
    return told


class Things(unittest.TestCase):
    def test_all_kinds_are_here(self):
        self.assertEqual(set(RIGHT), {(name, side) for name in NAMES for side in ("left", "right")})
        for claim, paper in RIGHT.values():
            self.assertIs(holds(claim, paper), True)

    def test_one_place_written_otherwise(self):
        for claim, paper in RIGHT.values():
            for other in with_one_changed(claim, wrong_for):
                self.assertIs(holds(other, paper), False, (other, paper))
            for other in with_one_changed(paper, wrong_for):
                self.assertIs(holds(claim, other), False, (claim, other))

    def test_all_tuples_as_lists(self):
        def as_lists(thing):
            return [as_lists(part) for part in thing] if isinstance(thing, tuple) else thing
        for claim, paper in RIGHT.values():
            self.assertIs(holds(as_lists(claim), paper), False)
            self.assertIs(holds(claim[:1] + tuple(as_lists(claim[1:])), as_lists(paper)), False)
            if paper is not None:
                self.assertIs(holds(claim, as_lists(paper)), False)

    def test_odd_claims_and_papers(self):
        odd = ODD_THINGS + [deep(claim, 6) for claim, paper in list(RIGHT.values())[:4]] + [-10 ** 30, "x" * 10 ** 5]
        for thing in odd:
            for paper in (None, thing, ()):
                self.assertIs(holds(thing, paper), False)
            for name in NAMES + ["", "no", "MAKES", "makes ", "make", "holds"]:
                self.assertIs(holds((name, thing), thing), False)
                self.assertIs(holds((name, TWO, thing), thing), False)
                self.assertIs(holds((name, TWO, thing, thing), thing), False)
                self.assertIs(holds((name, TWO, ("left", ()), thing, thing), thing), False)
            for claim, paper in RIGHT.values():
                self.assertIs(holds((thing,) + claim[1:], paper), False)
                self.assertIs(holds(claim[:1] + (thing,) + claim[2:], paper), False)
                if paper != thing:
                    self.assertIs(holds(claim, thing), False, (claim, thing))

    def test_parts_too_few_or_too_many(self):
        for claim, paper in RIGHT.values():
            for at in range(len(claim)):
                self.assertIs(holds(claim[:at], paper), False)
                self.assertIs(holds(claim[:at] + claim[at + 1:], paper), False)
                self.assertIs(holds(claim[:at] + claim[at:at + 1] + claim[at:], paper), False)
            for more in (None, (), "", 0, paper, TWO):
                self.assertIs(holds(claim + (more,), paper), False)
            self.assertIs(holds(claim, (paper,)), False)
            if paper is not None:
                self.assertIs(holds(claim, None), False)
                self.assertIs(holds(claim, paper[:-1]), False)
                self.assertIs(holds(claim, paper + (None,)), False)

    def test_another_first_word(self):
        for claim, paper in RIGHT.values():
            for name in ("", "no", "Makes", claim[0] + " ", " " + claim[0], claim[0].replace(" ", "  ") + "s", ["makes"],
                         {"makes": 1}, [claim[0]], {}, (claim[0],), None, True, 0, deep("makes", 11)):
                self.assertIs(holds((name,) + claim[1:], paper), False)

    def test_words_of_another_stock(self):
        other = (("a", ("vowel",)), ("b", ()), ("e", ()))
        for claim, paper in RIGHT.values():
            for stock in ((("a", ()),), (("a", ()), ("d", ()))):
                self.assertIs(holds((claim[0], stock) + claim[2:], paper), False)
            for at, part in enumerate(claim[2:], 2):
                if isinstance(part, str) and part not in ("left", "right"):
                    self.assertIs(holds(claim[:at] + (part + "e",) + claim[at + 1:], paper), False)
        order = ("left", (FALL,))
        self.assertIs(holds(("makes", TWO, order, "e", "e"), ("e", "e")), False)
        self.assertIs(holds(("makes", other, order, "e", "e"), ("e", "e")), True)

    def test_numbers_of_rules_that_are_none(self):
        order = ("left", (FALL, rule("once", "a>b", "a", None)))
        rows = RIGHT["never", "left"][1]
        self.assertIs(holds(("never", TWO, order, 1), rows), True)
        for number in (-1, 2, 4, 10 ** 30, True, False, None, "1", (1,), [1]):
            self.assertIs(holds(("never", TWO, order, number), rows), False)
            self.assertIs(holds(("acts", TWO, order, number, "aa"), None), False)
        self.assertIs(holds(("acts", TWO, order, 0, "aa"), None), True)
        self.assertIs(holds(("acts", TWO, order, -2, "aa"), None), False)
        for number in (0, 1, -1):
            self.assertIs(holds(("never", TWO, ("left", ()), number), ((),)), False)
            self.assertIs(holds(("acts", TWO, ("left", ()), number, "aa"), None), False)

    def test_books_that_are_none(self):
        order, pair = ("left", ()), ("a", "b")
        for many in range(1, 7):
            self.assertIs(holds(("quarrel", TWO, order, (pair,) * many), (0,)), True)
        for book in ((), (pair,) * 7, [pair], (list(pair),), (("a",),), (("a", "b", "b"),), (("a", "x"),), (("x", "b"),),
                     (pair, None), (pair, ("a", None)), (pair, (0, "b")), ((pair,),), {0: pair}, pair, None, 1, "ab"):
            self.assertIs(holds(("quarrel", TWO, order, book), (0,)), False)

    def test_sides_that_are_none(self):
        rows = RIGHT["no way", "left"]
        for side in ("", "Left", "up", "right ", None, True, 0, ["left"], ("left",), {}):
            self.assertIs(holds(rows[0][:2] + (side,) + rows[0][3:], rows[1]), False)

    def test_standings_of_another_number_of_rules(self):
        order = ("left", ())
        machine = least_machine(TWO, order)
        self.assertIs(holds(("machine", TWO, order, machine), (((), 0, "", ""),)), True)
        self.assertIs(holds(("machine", TWO, order, machine), (((), 0, "", ""), (((True, ""),), 0, "", ""))), False)
        order = ("left", (FALL,))
        machine = naive_machine(TWO, order)
        table = naive_table(TWO, order, machine)
        self.assertIs(holds(("machine", TWO, order, machine), (((), 0, "", ""),) + table), False)
        for odd in ((True, "aa"), (True, "#"), (True, "x"), (1, "a"), (True, None), (True,), (True, "a", "a"), [True, "a"]):
            self.assertIs(holds(("machine", TWO, order, machine), table + (((odd,), 9, "", ""),)), False)

    def test_long_texts(self):
        order = ("left", ())
        long = "ab" * 50000
        self.assertIs(holds(("makes", TWO, order, long, long), (long,)), True)
        self.assertIs(holds(("makes", TWO, order, long, long), (long + "x",)), False)
        machine = (long, (("", (("a", 0), ("b", 0))),))
        self.assertIs(holds(("machine", TWO, order, machine), (((), 0, "", long),)), False)
        self.assertIs(holds(("makes" * 10 ** 5, TWO, order, "", ""), ("",)), False)

    def test_nothing_is_changed_and_the_same_each_time(self):
        for claim, paper in RIGHT.values():
            things = [list(claim), [paper, {"a": [paper]}]]
            before = copy.deepcopy(things)
            told = [holds(things[0], things[1]), holds(tuple(things[0]), things[1][0]), holds(tuple(things[0]), things[1])]
            self.assertEqual(told, [False, True, False])
            self.assertEqual(things, before)
            self.assertIs(holds(claim, paper), True)

    def test_drawn_things(self):
        dice = Dice(141)
        parts = [None, True, False, 0, 1, 2, -1, "", "a", "ab", "x", "left", "right", "once", FALL, PUT, TWO, (), [], {},
                 ("left", (FALL,)), ("right", ()), least_machine(TWO, ("left", (FALL,))), (("a", "b"),), ((0, 0),),
                 naive_table(TWO, ("left", (FALL,)), least_machine(TWO, ("left", (FALL,)))), deep((), 9)]
        taken = []
        for turn in range(20000):
            claim, paper = dice.one_of(list(RIGHT.values()))
            at = dice.below(len(claim))
            claim = claim[:at] + (dice.one_of(parts),) + claim[at + 1:]
            if dice.below(3) == 0:
                paper = dice.one_of(parts + [tuple(dice.one_of(parts) for at in range(dice.below(5)))])
            told = holds(claim, paper)
            self.assertIn(told, (True, False))
            if told:
                taken.append(claim)
        for claim in taken:
            self.assertIn(claim[0], NAMES)
            if claim[0] == "makes":
                self.assertEqual(naive_made(claim[2], claim[3]), claim[4])
            if claim[0] == "parted":
                self.assertNotEqual(naive_made(claim[2], claim[4]), naive_made(claim[3], claim[4]))
            if claim[0] in ("no source", "endless"):
                made_of = [naive_made(claim[2], word) for word in all_words(TWO, 6)]
                self.assertEqual(claim[3] in made_of, claim[0] == "endless")
        self.assertGreater(len(taken), 100)


class Machines(unittest.TestCase):
    def test_machines_that_are_none(self):
        steps = (("a", 0), ("b", 0))
        order = ("left", ())
        right = ("", (("", steps),))
        table = (((), 0, "", ""),)
        self.assertIs(holds(("machine", TWO, order, right), table), True)
        wrong = [
            None, 0, "", (), ("",), ("", ()), ("", [("", steps)]), ["", (("", steps),)], ("", (("", steps),), ()), ("x", (("", steps),)),
            (None, (("", steps),)), ("", (("x", steps),)), ("", ((None, steps),)), ("", (["", steps],)), ("", (("", list(steps)),)),
            ("", (("", steps[:1]),)), ("", (("", steps + steps[:1]),)), ("", (("", ()),)), ("", (("",),)), ("", (("", steps, 0),)),
            ("", (("", (("a", 0), ("b", 1))),)), ("", (("", (("a", 0), ("b", -1))),)), ("", (("", (("a", 0), ("b", False))),)),
            ("", (("", (("a", 0), ("b", None))),)), ("", (("", (("a", 0), ("b", 10 ** 30))),)), ("", (("", (("a", 0), ("b",))),)),
            ("", (("", (("a", 0), ["b", 0])),)), ("", (("", (("a", 0), ("b", 0, 0))),)), ("", (("", (("a", 0), ("x", 0))),)),
            ("", (("", (("a", 0), ("#", 0))),)), ("", (("", (("a", 0), (None, 0))),)),
            # A state to which nothing leads has to be one, too.
            ("", (("", steps), ("", (("a", 0), ("b", 2))))), ("", (("", steps), ("", ()))), ("", (("", steps), None)),
            ("", (("", steps), ("", (("a", True), ("b", 0))))), {0: right}, ("", {0: ("", steps)}),
        ]
        for machine in wrong:
            self.assertIs(is_machine(TWO, machine), False, machine)
            self.assertIs(holds(("machine", TWO, order, machine), table), False, machine)
            self.assertIs(holds(("alike", TWO, order, order), (machine, table, table)), False, machine)
            self.assertIs(holds(("no source", TWO, order, "a"), (machine, table, ())), False, machine)
            self.assertIs(holds(("endless", TWO, order, "a", "", "a", "a"), (machine, table)), False, machine)
            self.assertIs(holds(("no common", TWO, order, order, "a", "b"), (machine, table, right, table, ())), False, machine)
            self.assertIs(holds(("no common", TWO, order, order, "a", "b"), (right, table, machine, table, ())), False, machine)

    def test_true_for_1(self):
        order = ("left", ())
        two = ("", (("", (("a", 1), ("b", 0))), ("", (("a", 0), ("b", 1)))))
        table = (((), 0, "", ""), ((), 1, "", ""))
        self.assertIs(holds(("machine", TWO, order, two), table), True)
        self.assertIs(holds(("machine", TWO, order, two), (((), 0, "", ""), ((), True, "", ""))), False)
        self.assertIs(holds(("machine", TWO, order, two), (((), False, "", ""), ((), 1, "", ""))), False)
        odd = ("", (("", (("a", True), ("b", 0))), ("", (("a", 0), ("b", 1)))))
        self.assertIs(holds(("machine", TWO, order, odd), table), False)
        odd = ("", (("", (("a", 1), ("b", False))), ("", (("a", 0), ("b", 1)))))
        self.assertIs(holds(("machine", TWO, order, odd), table), False)

    def test_not_the_least_but_the_same(self):
        # It puts out late, has a state twice, and one to which nothing leads.
        order = ("left", (rule("once", "b>a", None, "#"),))
        late = ("", (("", (("", 1), ("", 2))), ("a", (("a", 1), ("a", 2))), ("a", (("b", 3), ("b", 2))),
                     ("a", (("a", 3), ("a", 2))), ("abab", (("", 4), ("ab", 0)))))
        self.assertNotEqual(late, least_machine(TWO, order))
        table = naive_table(TWO, order, late)
        self.assertIs(holds(("machine", TWO, order, late), table), True)
        self.assertIs(holds(("machine", TWO, ("left", ()), late), table), False)
        self.assertIs(holds(("alike", TWO, order, order), (late, table, table)), True)

    def test_a_machine_that_is_ahead_of_the_order_and_one_that_is_behind(self):
        # The order puts out the sound ahead; the one machine at once, the other one two sounds later.
        order = ("left", (rule("once", "a>b", "a", "a"),))
        least = least_machine(TWO, order)
        for machine in (least, naive_machine(TWO, order)):
            self.assertIs(holds(("machine", TWO, order, machine), naive_table(TWO, order, machine)), True)
        early = naive_table(TWO, order, least)
        self.assertTrue(any(less for standing, number, more, less in early))
        plain = ("left", ())
        late = ("", (("", (("", 1), ("", 2))), ("a", (("a", 1), ("a", 2))), ("b", (("b", 1), ("b", 2)))))
        table = naive_table(TWO, plain, late)
        self.assertTrue(any(more for standing, number, more, less in table))
        self.assertIs(holds(("machine", TWO, plain, late), table), True)


class Imports(unittest.TestCase):
    def imported(self, module):
        for node in ast.walk(ast.parse((PACKAGE / (module + ".py")).read_text())):
            if isinstance(node, ast.ImportFrom):
                yield node.module.split(".")[1], [alias.name for alias in node.names]

    def test_the_checker_trusts_nobody(self):
        modules = ["checker"]
        for module in modules:
            for other, names in self.imported(module):
                if other in STAGES_5_TO_11:
                    self.assertEqual(names, ["run"], module)
                elif other not in modules:
                    modules.append(other)
        self.assertIn("tables", modules)
        self.assertIn("things", modules)
        self.assertEqual(set(modules) - {"checker", "tables", "things", "errors", "stocks", "rules", "changing", "standings"},
                         set())


if __name__ == "__main__":
    unittest.main()
