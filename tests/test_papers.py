"""[20]: for each question the claim that is true, with a paper that the checker takes."""

import unittest

from soundrules.books import told_by
from soundrules.changing import made, walk
from soundrules.checker import holds
from soundrules.daughters import common
from soundrules.errors import NoNumber, NoSide, TooMany
from soundrules.likeness import alike
from soundrules.machines import least_machine
from soundrules.orderings import acts
from soundrules.papers import (
    paper_acts, paper_alike, paper_endless, paper_machine, paper_makes, paper_no_common, paper_no_source, paper_quarrel,
    paper_taking, paper_way)
from soundrules.sources import sources
from soundrules.standings import standings
from soundrules.tworules import makes_way, takes_from
from tests.helper import (
    FOUR, JUST_600, ODD_THINGS, ONE, OVER_600, THREE, TWO, Dice, all_words, many_orders, naive_common_rows,
    naive_form_rows, naive_quarrel_paper, naive_table, naive_two_rows, rule, thrown_word)

FALL = rule("along", "a>", "a", None)
SWAP = rule("once", "a>b b>a")
FINAL = rule("once", "b>a", None, "#")
SIDES = ("left", "right")
STOCKS = ((ONE, 2, 10), (TWO, 3, 30), (THREE, 3, 20), (FOUR, 2, 10))


class Papers(unittest.TestCase):
    def taken(self, told, claim):
        """The paper of what is told, where the claim is just this one and the checker takes it."""
        self.assertIsInstance(told, tuple)
        self.assertEqual(len(told), 2)
        self.assertEqual(told[0], claim)
        self.assertIs(holds(*told), True, told)
        for other in (None, (), told, (told[1],), [told[1]]):
            if other != told[1]:
                self.assertIs(holds(claim, other), False)
        return told[1]

    def test_makes(self):
        for stock, most, many in STOCKS:
            for order in many_orders(stock, most, many, 201):
                for word in all_words(stock, 2):
                    told = paper_makes(stock, order, word)
                    self.assertEqual(self.taken(told, ("makes", stock, order, word, made(order, word))), walk(order, word))
        word = "ab" * 50
        self.taken(paper_makes(TWO, ("right", (SWAP,)), word), ("makes", TWO, ("right", (SWAP,)), word, "ba" * 50))

    def test_machine(self):
        for stock, most, many in STOCKS:
            for order in many_orders(stock, most, many, 202):
                machine = least_machine(stock, order)
                table = self.taken(paper_machine(stock, order), ("machine", stock, order, machine))
                self.assertEqual(table, naive_table(stock, order, machine))

    def test_alike(self):
        seen = set()
        for stock, most, many in STOCKS:
            for one in many_orders(stock, most, many, 203):
                others = [(one[0], one[1][::-1]), (one[0], one[1] + one[1][-1:]), (one[0], ())]
                for other in others:
                    told = alike(stock, one, other)
                    paper = self.taken(paper_alike(stock, one, other), told[:1] + (stock, one, other) + told[1:])
                    seen.add((told[0], one[0]))
                    if told == ("alike",):
                        machine = least_machine(stock, one)
                        self.assertEqual(paper, (machine, naive_table(stock, one, machine), naive_table(stock, other, machine)))
                    else:
                        self.assertIsNone(paper)
        self.assertEqual(seen, {(name, side) for name in ("alike", "parted") for side in SIDES})

    def test_acts(self):
        seen = set()
        for stock, most, many in STOCKS:
            for order in many_orders(stock, most, many, 204) + [(side, (FALL, FALL)) for side in SIDES if stock == TWO]:
                for number in range(len(order[1])):
                    word = acts(stock, order, number)
                    claim = ("never", stock, order, number) if word is None else ("acts", stock, order, number, word)
                    paper = self.taken(paper_acts(stock, order, number), claim)
                    self.assertEqual(paper, standings(stock, order) if word is None else None)
                    seen.add((claim[0], order[0]))
        self.assertEqual(seen, {(name, side) for name in ("acts", "never") for side in SIDES})

    def test_two_rules(self):
        seen = set()
        for stock in (ONE, TWO, THREE):
            rules = [order[1][0] for order in many_orders(stock, 1, 12, 205) if order[1] != ()]
            for one, other in zip(rules + rules, rules[3:] + rules[:3] + rules):
                for side in SIDES:
                    rows, ends = naive_two_rows(stock, side, one, other)
                    for paper_of, seek, names in ((paper_way, makes_way, ("makes way", "no way")),
                                                  (paper_taking, takes_from, ("takes", "no taking"))):
                        word = seek(stock, side, one, other)
                        claim = (names[word is None], stock, side, one, other) + (() if word is None else (word,))
                        paper = self.taken(paper_of(stock, side, one, other), claim)
                        self.assertEqual(paper, rows if word is None else None)
                        seen.add((claim[0], side))
        self.assertEqual(seen, {(name, side) for name in ("makes way", "no way", "takes", "no taking") for side in SIDES})

    def test_sources(self):
        seen = set()
        for stock, most, many in STOCKS:
            for order in many_orders(stock, most, many, 206):
                for form in all_words(stock, 2):
                    told = sources(stock, order, form)
                    seen.add((told[0], order[0]))
                    self.check_sources(stock, order, form, told)
        self.assertEqual(seen, {(name, side) for name in ("none", "some", "endless") for side in SIDES})

    def check_sources(self, stock, order, form, told):
        machine = least_machine(stock, order)
        table = naive_table(stock, order, machine)
        if told[0] == "none":
            paper = self.taken(paper_no_source(stock, order, form), ("no source", stock, order, form))
            self.assertEqual(paper, (machine, table, naive_form_rows(stock, order[0], machine, form)[0]))
        else:
            self.assertIsNone(paper_no_source(stock, order, form))
        if told[0] == "endless":
            paper = self.taken(paper_endless(stock, order, form), ("endless", stock, order, form) + told[1:])
            self.assertEqual(paper, (machine, table))
        else:
            self.assertIsNone(paper_endless(stock, order, form))

    def test_forms_of_100_sounds(self):
        dice = Dice(207)
        for order in many_orders(TWO, 2, 10, 208):
            form = thrown_word(dice, TWO, 100)
            self.check_sources(TWO, order, form, sources(TWO, order, form))
            form = "a" * 100
            self.check_sources(TWO, order, form, sources(TWO, order, form))

    def test_no_common(self):
        seen = set()
        for stock, most, many in ((ONE, 2, 6), (TWO, 2, 16), (THREE, 2, 6)):
            orders = many_orders(stock, most, many, 209)
            orders += [(side, (FALL,)) for side in SIDES] * 2 if stock == TWO else []
            for one, other in zip(orders, orders[2:] + orders[:2]):
                if one[0] != other[0]:
                    continue
                machines = least_machine(stock, one), least_machine(stock, other)
                forms = all_words(stock, 1) + (["ab", "bba"] if stock == TWO else [])
                for form in forms:
                    for second in forms:
                        told = common(stock, one, other, form, second)
                        seen.add((told[0], one[0]))
                        paper = paper_no_common(stock, one, other, form, second)
                        if told[0] != "none":
                            self.assertIsNone(paper)
                            continue
                        paper = self.taken(paper, ("no common", stock, one, other, form, second))
                        rows = naive_common_rows(stock, one[0], machines, (form, second))[0]
                        tables = naive_table(stock, one, machines[0]), naive_table(stock, other, machines[1])
                        self.assertEqual(paper, (machines[0], tables[0], machines[1], tables[1], rows))
        self.assertEqual(seen, {(name, side) for name in ("none", "some", "endless") for side in SIDES})

    def test_quarrel(self):
        dice = Dice(210)
        seen = set()
        for stock, most, many in STOCKS:
            words = all_words(stock, 2)
            for order in many_orders(stock, most, many, 211):
                # Half the forms are ones that the order makes.
                book = tuple((word, dice.one_of([word, made(order, word), made(order, word), dice.one_of(words)]))
                             for word in [dice.one_of(words) for at in range(1 + dice.below(6))])
                told = told_by(order, book)
                paper = paper_quarrel(stock, order, book)
                seen.add((told[0], order[0]))
                if told[0] == "told":
                    self.assertIsNone(paper)
                else:
                    pairs = tuple(book[number] for number in told[1])
                    paper = self.taken(paper, ("quarrel", stock, order, pairs))
                    self.assertEqual(paper, naive_quarrel_paper(order, pairs))
        self.assertEqual(seen, {(name, side) for name in ("told", "quarrel") for side in SIDES})

    def test_quarrel_numbers_are_of_the_pairs_of_the_claim(self):
        order = ("left", (FINAL, rule("once", "a>b", "#", "#")))
        book = (("", ""), ("ab", "aa"), ("b", "a"), ("", ""), ("b", "b"))
        self.assertEqual(told_by(order, book), ("quarrel", (2, 4)))
        self.assertEqual(paper_quarrel(TWO, order, book), (("quarrel", TWO, order, (("b", "a"), ("b", "b"))), (0, 1)))
        self.assertEqual(paper_quarrel(TWO, ("right", ()), (("a", "a"), ("a", "b"))),
                         (("quarrel", TWO, ("right", ()), (("a", "b"),)), (0,)))

    def test_examples(self):
        order = ("left", (FALL,))
        machine = ("", (("", (("a", 1), ("b", 0))), ("", (("", 1), ("b", 0)))))
        table = ((((False, ""),), 0, "", ""), (((False, "a"),), 1, "", "a"), (((False, "b"),), 0, "", "b"),
                 (((True, "a"),), 1, "", ""), (((True, "b"),), 0, "", "b"))
        self.assertEqual(paper_machine(TWO, order), (("machine", TWO, order, machine), table))
        self.assertEqual(paper_no_source(TWO, order, "aa"), (("no source", TWO, order, "aa"), (machine, table, ((0, 0), (1, 1)))))
        self.assertEqual(paper_endless(TWO, order, "a"), (("endless", TWO, order, "a", "a", "a", ""), (machine, table)))
        self.assertIsNone(paper_endless(TWO, order, "b"))
        self.assertIsNone(paper_no_source(TWO, order, "b"))
        self.assertEqual(paper_makes(TWO, order, "aab"), (("makes", TWO, order, "aab", "ab"), ("aab", "ab")))


class Refused(unittest.TestCase):
    def test_no_side(self):
        one, other = ("left", (FALL,)), ("right", (FALL,))
        for pair in ((one, other), (other, one), (OVER_600[0], OVER_600[1]), (OVER_600[1], OVER_600[0])):
            stock = TWO if pair[0] in (one, other) else FOUR
            self.assertRaises(NoSide, paper_alike, stock, *pair)
            self.assertRaises(NoSide, paper_no_common, stock, *pair, "a", "a")

    def test_no_number(self):
        for stock, order in ((TWO, ("left", (FALL, SWAP))), (TWO, ("right", ())), (FOUR, OVER_600[0]), (FOUR, OVER_600[1])):
            for number in [len(order[1]), -1, 4, 10 ** 30] + [thing for thing in ODD_THINGS if thing not in (0, 1)] + [True, False]:
                self.assertRaises(NoNumber, paper_acts, stock, order, number)

    def test_too_many(self):
        for order in OVER_600:
            plain = (order[0], ())
            self.assertRaises(TooMany, paper_machine, FOUR, order)
            self.assertRaises(TooMany, paper_alike, FOUR, order, order)
            self.assertRaises(TooMany, paper_alike, FOUR, order, plain)
            self.assertRaises(TooMany, paper_alike, FOUR, plain, order)
            self.assertRaises(TooMany, paper_acts, FOUR, order, 3)
            self.assertRaises(TooMany, paper_no_source, FOUR, order, "a")
            self.assertRaises(TooMany, paper_endless, FOUR, order, "a")
            self.assertRaises(TooMany, paper_no_common, FOUR, order, plain, "a", "b")
            self.assertRaises(TooMany, paper_no_common, FOUR, plain, order, "a", "b")
            # Of one word and of a book it is told.
            claim, paper = paper_makes(FOUR, order, "abde" * 25)
            self.assertIs(holds(claim, paper), True)
            claim, paper = paper_quarrel(FOUR, order, (("a", "a"), ("a", "bb")))
            self.assertIs(holds(claim, paper), True)

    def test_just_600(self):
        for order in JUST_600:
            plain = (order[0], ())
            machine = least_machine(FOUR, order)
            told = [paper_machine(FOUR, order), paper_alike(FOUR, order, order), paper_alike(FOUR, plain, order),
                    paper_acts(FOUR, order, 0), paper_acts(FOUR, order, 3)]
            self.assertEqual(told[0][0], ("machine", FOUR, order, machine))
            self.assertEqual([claim[0] for claim, paper in told[:3]], ["machine", "alike", "parted"])
            for form in ("", "a", "bde", "ebb"):
                told += [paper_no_source(FOUR, order, form), paper_endless(FOUR, order, form),
                         paper_no_common(FOUR, order, plain, form, "d")]
            for each in told:
                if each is not None:
                    self.assertIs(holds(*each), True)


class TheAskersOwn(unittest.TestCase):
    def test_the_same_each_time(self):
        for order in many_orders(TWO, 2, 6, 212):
            book = (("a", "ab"), ("b", "b"))
            asked = [lambda: paper_makes(TWO, order, "ab"), lambda: paper_machine(TWO, order),
                     lambda: paper_alike(TWO, order, order), lambda: paper_no_source(TWO, order, "ab"),
                     lambda: paper_endless(TWO, order, "a"), lambda: paper_no_common(TWO, order, order, "a", "b"),
                     lambda: paper_quarrel(TWO, order, book)]
            for ask in asked:
                self.assertEqual(ask(), ask())


if __name__ == "__main__":
    unittest.main()
