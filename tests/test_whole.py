"""[3]: over the whole program all that is told agrees, and whatever the house tells the checker takes."""

import unittest

from soundrules.books import fewest, told_by
from soundrules.changing import made, walk
from soundrules.checker import holds
from soundrules.daughters import common, common_at, common_number, without_common
from soundrules.desk import Desk
from soundrules.likeness import alike
from soundrules.machines import least_machine, run
from soundrules.orderings import acts, classes
from soundrules.papers import (
    paper_acts, paper_alike, paper_endless, paper_machine, paper_makes, paper_no_common, paper_no_source, paper_quarrel,
    paper_taking, paper_way)
from soundrules.sources import number_of, source_at, sources
from soundrules.standings import end_of, first_standing, read_on, standings
from soundrules.texts import read_order, read_stock, show_order, show_stock
from soundrules.tworules import makes_way, takes_from
from tests.helper import FOUR, ONE, THREE, TWO, Dice, all_words, many_orders, rule, thrown_word

DRAWN = ((ONE, 4, 12, 6), (TWO, 4, 24, 5), (THREE, 3, 14, 3), (FOUR, 2, 8, 2))


def drawn_orders(seed):
    for stock, most, many, longest in DRAWN:
        for order in many_orders(stock, most, many, seed):
            yield stock, order, all_words(stock, longest)


def laid_so(order, ordering):
    return (order[0], tuple(order[1][number] for number in ordering))


class Whole(unittest.TestCase):
    def taken(self, told):
        self.assertIs(holds(*told), True, told)
        return told[0]

    def test_words(self):
        for stock, order, words in drawn_orders(241):
            machine = least_machine(stock, order)
            self.assertEqual(self.taken(paper_machine(stock, order)), ("machine", stock, order, machine))
            desk = Desk(read_stock(show_stock(stock)))
            desk.say("order x " + show_order(order))
            self.assertEqual(read_order(stock, desk.say("show x")), order)
            for word in words:
                form = made(order, word)
                self.assertEqual(walk(order, word)[-1], form)
                self.assertEqual(run(stock, machine, order[0], word), form)
                self.assertEqual(self.read(order, word), form)
                self.assertEqual(self.taken(paper_makes(stock, order, word)), ("makes", stock, order, word, form))
                self.assertEqual(desk.say(f"make x {word or 0}"), form or "0")
            self.assertEqual(desk.say("paper"), "holds")

    def read(self, order, word):
        standing, puts = first_standing(order), ""
        for sound in word[::-1] if order[0] == "right" else word:
            standing, put = read_on(order, standing, sound)
            puts = puts + put
        whole = puts + end_of(order, standing)
        return whole[::-1] if order[0] == "right" else whole

    def test_long_words(self):
        dice = Dice(242)
        for stock, order, words in drawn_orders(243):
            word = thrown_word(dice, stock, 100)
            form = made(order, word)
            self.assertEqual(run(stock, least_machine(stock, order), order[0], word), form)
            self.taken(paper_makes(stock, order, word))
            if len(form) <= 100:
                number = number_of(stock, order, form, word)
                self.assertEqual(source_at(stock, order, form, number), word)
                self.assertIsNone(paper_no_source(stock, order, form))

    def test_orders(self):
        seen = set()
        for stock, most, many, longest in DRAWN:
            orders = many_orders(stock, most, many, 244)
            for one, other in zip(orders, orders[2:]):
                told = alike(stock, one, other)
                seen.add(told[0])
                self.assertEqual(told == ("alike",), least_machine(stock, one) == least_machine(stock, other))
                claim = self.taken(paper_alike(stock, one, other))
                self.assertEqual(claim, told[:1] + (stock, one, other) + told[1:])
                if told != ("alike",):
                    self.assertNotEqual(made(one, told[1]), made(other, told[1]))
                    words = [word for word in all_words(stock, min(longest, len(told[1]))) if len(word) < len(told[1])]
                    self.assertEqual([made(one, word) for word in words], [made(other, word) for word in words])
                    forms = made(one, told[1]), made(other, told[1])
                    self.assertNotEqual(common(stock, one, other, *forms), ("none",))
        self.assertEqual(seen, {"alike", "parted"})

    def test_classes(self):
        for stock, order, words in drawn_orders(245):
            told = classes(stock, order)
            orderings = [ordering for group in told for ordering in group]
            self.assertEqual(len(orderings), len(set(orderings)))
            heads = [laid_so(order, group[0]) for group in told]
            for group, head in zip(told, heads):
                for ordering in group:
                    self.assertEqual(alike(stock, head, laid_so(order, ordering)), ("alike",))
            for one, other in zip(heads, heads[1:]):
                claim = self.taken(paper_alike(stock, one, other))
                self.assertEqual(claim[0], "parted")

    def test_forms(self):
        seen = set()
        for stock, order, words in drawn_orders(246):
            plain = (order[0], ())
            for form in all_words(stock, 2):
                told = sources(stock, order, form)
                seen.add(told[0])
                own = [word for word in words if made(order, word) == form]
                self.assertEqual([number_of(stock, order, form, word) for word in own], list(range(len(own))))
                if told[0] != "endless":
                    self.assertGreaterEqual(told[1] if told[0] == "some" else 0, len(own))
                else:
                    ahead, ring, behind = told[1:]
                    for many in range(4):
                        self.assertEqual(made(order, ahead + ring * many + behind), form)
                for number, word in enumerate(own):
                    self.assertEqual(source_at(stock, order, form, number), word)
                    self.assertEqual(common(stock, order, plain, form, word), ("some", 1))
                self.check_form_papers(stock, order, form, told)
                # The sources of one form by two orders that are the same are common ones.
                both = common(stock, order, order, form, form)
                self.assertEqual(both[0], told[0])
                if both[0] == "some":
                    self.assertEqual(both, told)
        self.assertEqual(seen, {"none", "some", "endless"})

    def check_form_papers(self, stock, order, form, told):
        no_source, endless = paper_no_source(stock, order, form), paper_endless(stock, order, form)
        self.assertEqual([no_source is not None, endless is not None], [told[0] == "none", told[0] == "endless"])
        for paper in (no_source, endless):
            if paper is not None:
                self.taken(paper)

    def test_daughters(self):
        for stock, most, many, longest in DRAWN:
            orders = many_orders(stock, min(most, 3), many, 247)
            words = all_words(stock, longest)
            for one, other in zip(orders, orders[2:]):
                forms = [(made(one, word), made(other, word)) for word in words[:5]] + [("a", ""), ("aa", "a")]
                pairs = tuple(forms[:2] + forms[-4:])
                told = [common(stock, one, other, *pair) for pair in pairs]
                self.assertEqual(without_common(stock, one, other, pairs),
                                 tuple(number for number, each in enumerate(told) if each == ("none",)))
                for pair, each in zip(pairs, told):
                    paper = paper_no_common(stock, one, other, *pair)
                    self.assertEqual(paper is not None, each == ("none",))
                    if paper is not None:
                        self.taken(paper)
                    else:
                        word = common_at(stock, one, other, *pair, 0)
                        self.assertEqual((made(one, word), made(other, word)), pair)
                        self.assertEqual(common_number(stock, one, other, *pair, word), 0)

    def test_rules(self):
        seen = set()
        for stock in (ONE, TWO, THREE):
            rules = [order[1][0] for order in many_orders(stock, 1, 14, 248) if order[1]]
            for one, other in zip(rules + rules[:4], rules[1:] + rules[:5]):
                for side in ("left", "right"):
                    way, taking = makes_way(stock, side, one, other), takes_from(stock, side, one, other)
                    behind, alone = acts(stock, (side, (one, other)), 1), acts(stock, (side, (other,)), 0)
                    # What makes way acts behind the one; what takes acts alone; where none of this is, it acts alike.
                    self.assertTrue(way is None or behind is not None)
                    self.assertTrue(taking is None or alone is not None)
                    if way is None and taking is None:
                        self.assertEqual(behind, alone)
                    claims = self.taken(paper_way(stock, side, one, other)), self.taken(paper_taking(stock, side, one, other))
                    self.assertEqual(claims[0][5:], () if way is None else (way,))
                    self.assertEqual(claims[1][5:], () if taking is None else (taking,))
                    seen.add((way is None, taking is None))
        self.assertEqual(len(seen), 4)
        for stock, order, words in drawn_orders(249):
            for number in range(len(order[1])):
                word = acts(stock, order, number)
                self.assertEqual(self.taken(paper_acts(stock, order, number))[4:], () if word is None else (word,))
                if word is not None:
                    self.assertNotEqual(walk(order, word)[number], walk(order, word)[number + 1])
                else:
                    # A rule that never acts may as well not be there.
                    without = (order[0], order[1][:number] + order[1][number + 1:])
                    self.assertEqual(alike(stock, order, without), ("alike",))

    def test_books(self):
        dice = Dice(250)
        seen = set()
        for stock, order, words in drawn_orders(251):
            some = [dice.one_of(words) for at in range(1 + dice.below(6))]
            book = tuple((word, dice.one_of([made(order, word), made(order, word), word])) for word in some)
            told = told_by(order, book)
            seen.add(told[0])
            paper = paper_quarrel(stock, order, book)
            if told[0] == "told":
                self.assertIsNone(paper)
                # Orderings that do the same tell the same books.
                for group in classes(stock, order):
                    self.assertIn(len([each for each in group if each in told[1]]), (0, len(group)))
                for ordering in told[1]:
                    self.assertTrue(all(made(laid_so(order, ordering), word) == form for word, form in book))
                self.assertLessEqual(len(fewest(order[0], order[1], book)), len(order[1]))
            else:
                pairs = self.taken(paper)[3]
                self.assertEqual(pairs, tuple(book[number] for number in told[1]))
                self.assertEqual(told_by(order, pairs)[0], "quarrel")
                for at in range(len(pairs)):
                    if len(pairs) > 1:
                        self.assertEqual(told_by(order, pairs[:at] + pairs[at + 1:])[0], "told")
                few = fewest(order[0], order[1], book)
                self.assertTrue(few is None or len(few) < len(order[1]))
        self.assertEqual(seen, {"told", "quarrel"})


class TheSameEachTime(unittest.TestCase):
    def asked(self, stock, order):
        plain = (order[0], ())
        told = [made(order, "aa"), walk(order, "aa"), standings(stock, order), least_machine(stock, order), alike(stock, order, plain),
                sources(stock, order, "a"), classes(stock, order), told_by(order, (("a", ""),)), common(stock, order, plain, "a", "aa"),
                fewest(order[0], order[1], (("a", ""),)), without_common(stock, order, plain, (("a", "a"), ("", "a"))),
                paper_makes(stock, order, "aa"), paper_machine(stock, order), paper_alike(stock, order, plain),
                paper_no_source(stock, order, "a"), paper_endless(stock, order, "a"), paper_quarrel(stock, order, (("a", ""),)),
                paper_no_common(stock, order, plain, "a", "")]
        for number in range(len(order[1])):
            told += [acts(stock, order, number), paper_acts(stock, order, number), makes_way(stock, order[0], order[1][0], order[1][number]),
                     takes_from(stock, order[0], order[1][0], order[1][number])]
        return told

    def test_whatever_was_asked_between(self):
        orders = many_orders(TWO, 3, 10, 252)
        first = [self.asked(TWO, order) for order in orders]
        self.assertEqual([self.asked(TWO, order) for order in orders[::-1]], first[::-1])

    def test_nothing_that_is_told_can_be_changed(self):
        def is_fixed(thing):
            if isinstance(thing, tuple):
                return all(is_fixed(part) for part in thing)
            return thing is None or isinstance(thing, (str, int))
        for order in many_orders(TWO, 3, 10, 253):
            for told in self.asked(TWO, order):
                self.assertTrue(is_fixed(told), told)

    def test_a_rule_by_hand(self):
        # Behind a stop e falls at the end; then stops at the end become d.
        stock = (("d", ("stop",)), ("e", ("vowel",)), ("t", ("stop",)))
        desk = Desk(stock)
        rows = ["order old left; once e>0 / [stop] _ #; once t>d / * _ #", "walk old tete", "order new left; once t>d / * _ #; once e>0 / [stop] _ #",
                "walk new tete", "alike old new", "paper", "sources old ted", "source old ted 0", "source old ted 3", "common old new ted tet"]
        self.assertEqual([desk.say(row) for row in rows],
                         ["ok", "tete tet ted", "ok", "tete tete tet", "te", "holds", "4", "ted", "tete", "1"])
        order = ("left", (rule("once", "e>", "dt", "#"), rule("once", "t>d", None, "#")))
        self.assertEqual(desk.say("show old"), show_order(order))


if __name__ == "__main__":
    unittest.main()
