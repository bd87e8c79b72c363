import unittest
from itertools import permutations

from soundrules.errors import NoNumber, TooMany
from soundrules.likeness import alike
from soundrules.orderings import acts, classes
from soundrules.rules import turned
from tests.helper import (FOUR, JUST_600, ODD_THINGS, ONE, OVER_600, THREE, TWO, all_words, many_orders, naive_made,
                          naive_walk, rule)

SIDES = ("left", "right")


def laid(order, ordering):
    return (order[0], tuple(order[1][number] for number in ordering))


class Classes(unittest.TestCase):
    def test_no_rules(self):
        for side in SIDES:
            self.assertEqual(classes(ONE, (side, ())), (((),),))
            self.assertEqual(classes(FOUR, (side, ())), (((),),))

    def test_one_rule(self):
        for side in SIDES:
            self.assertEqual(classes(TWO, (side, (rule("once", "a>b"),))), (((0,),),))

    def test_two_rules(self):
        for side in SIDES:
            self.assertEqual(classes(TWO, (side, (rule("once", "a>b"), rule("once", "b>a")))), (((0, 1),), ((1, 0),)))
            self.assertEqual(classes(FOUR, (side, (rule("once", "a>b"), rule("once", "d>e")))), (((0, 1), (1, 0)),))
            self.assertEqual(classes(TWO, (side, (rule("once", "a>b"),) * 2)), (((0, 1), (1, 0)),))

    def test_three_rules(self):
        # The first and the last one do not touch each other, but the one between touches the first one.
        rules = (rule("once", "a>b"), rule("once", "b>a"), rule("once", "d>e"))
        for side in SIDES:
            self.assertEqual(classes(FOUR, (side, rules)),
                             (((0, 1, 2), (0, 2, 1), (2, 0, 1)), ((1, 0, 2), (1, 2, 0), (2, 1, 0))))

    def test_four_rules(self):
        same = (rule("once", "a>b"),) * 4
        for side in SIDES:
            self.assertEqual(classes(TWO, (side, same)), (tuple(permutations(range(4))),))

    def test_the_side_counts(self):
        rules = (rule("along", "a>b", None, "a"), rule("once", "a>b", None, "a"))
        self.assertEqual(classes(TWO, ("left", rules)), (((0, 1), (1, 0)),))
        self.assertEqual(classes(TWO, ("right", rules)), (((0, 1),), ((1, 0),)))
        self.assertEqual(classes(TWO, ("left", tuple(map(turned, rules)))), (((0, 1),), ((1, 0),)))

    def check(self, stock, order, most):
        told = classes(stock, order)
        self.assertEqual(classes(stock, order), told)
        self.assertIs(type(told), tuple)
        self.assertEqual(told, tuple(sorted(told)))
        for group in told:
            self.assertIs(type(group), tuple)
            self.assertEqual(group, tuple(sorted(group)))
        self.assertEqual(sorted(each for group in told for each in group),
                         list(permutations(range(len(order[1])))))
        words = all_words(stock, most)
        for group in told:
            forms = [naive_made(laid(order, group[0]), word) for word in words]
            for ordering in group[1:]:
                self.assertEqual([naive_made(laid(order, ordering), word) for word in words], forms, (order, ordering))
        firsts = [laid(order, group[0]) for group in told]
        for at, one in enumerate(firsts):
            for other in firsts[:at]:
                kind, word = alike(stock, one, other)
                self.assertNotEqual(naive_made(one, word), naive_made(other, word), (one, other))

    def test_many(self):
        for stock, most, seed in ((ONE, 6, 81), (TWO, 4, 82), (THREE, 3, 83)):
            for order in many_orders(stock, 3, 24, seed):
                self.check(stock, order, most)

    def test_many_of_four_rules(self):
        for side, rules in many_orders(TWO, 2, 6, 84)[2:]:
            self.check(TWO, (side, (rules * 4)[:4]), 3)
        for order in [order for order in many_orders(TWO, 4, 24, 85) if len(order[1]) == 4]:
            self.check(TWO, order, 3)

    def test_too_many(self):
        for order in OVER_600:
            with self.assertRaises(TooMany):
                classes(FOUR, order)


class Acts(unittest.TestCase):
    def test_at_the_word_without_sounds(self):
        for side in SIDES:
            self.assertEqual(acts(TWO, (side, (rule("once", ">a"),)), 0), "")
            self.assertEqual(acts(TWO, (side, (rule("once", ">a", "#", "#"), rule("along", "a>b"))), 1), "")

    def test_as_it_stands(self):
        for side in SIDES:
            self.assertEqual(acts(FOUR, (side, (rule("once", "a>b", "#", "d"),)), 0), "ad")
            self.assertEqual(acts(FOUR, (side, (rule("along", "d>", "a", "b"), rule("once", "a>e", "#", "b"))), 0), "adb")

    def test_behind_others(self):
        for side in SIDES:
            # Only where the first rule left d out does b stand behind a: those there were are e by now.
            order = (side, (rule("once", "b>e", "a"), rule("once", "d>"), rule("once", "a>e", None, "b")))
            self.assertEqual(acts(FOUR, order, 2), "adb")

    def test_never(self):
        gone = rule("once", "a>")
        for side in SIDES:
            self.assertIsNone(acts(TWO, (side, (gone, rule("once", "a>b"))), 1))
            self.assertEqual(acts(TWO, (side, (rule("once", "a>b"), gone)), 0), "a")
            self.assertIsNone(acts(TWO, (side, (rule("once", "a>b"), gone)), 1))
            self.assertIsNone(acts(TWO, (side, (rule("once", ">b"), rule("along", "a>b", "a", "a"))), 1))
            self.assertIsNone(acts(TWO, (side, (rule("once", ">b"), rule("along", ">b", "#", "#"))), 1))

    def check(self, stock, order, most):
        for number in range(len(order[1])):
            told = acts(stock, order, number)
            self.assertEqual(acts(stock, order, number), told)
            short = most if told is None else min(most, len(told) - 1)
            for word in all_words(stock, short):
                walk = naive_walk(order, word)
                self.assertEqual(walk[number], walk[number + 1], (order, number, told, word))
            if told is not None:
                self.assertIs(type(told), str)
                walk = naive_walk(order, told)
                self.assertNotEqual(walk[number], walk[number + 1], (order, number, told))

    def test_many(self):
        for stock, most, seed in ((ONE, 8, 86), (TWO, 6, 87), (THREE, 4, 88)):
            for order in many_orders(stock, 4, 60, seed):
                self.check(stock, order, most)
        for order in many_orders(FOUR, 3, 40, 89):
            self.check(FOUR, order, 3)

    def test_just_600(self):
        for order in JUST_600:
            self.check(FOUR, order, 4)


class Refusals(unittest.TestCase):
    def test_no_numbers(self):
        things = [-1, 2, 3, 4, -2, 10 ** 30, True, False, "0", "1", "", None, [], [0], (), (0,), {}, {0: 1}, b"0"]
        for order in (("left", (rule("once", "a>b"), rule("once", "b>a"))), ("right", (rule("once", ">a"),) * 2)):
            for thing in things + [thing for thing in ODD_THINGS if type(thing) is not int]:
                with self.assertRaises(NoNumber, msg=thing):
                    acts(TWO, order, thing)
        for side in SIDES:
            for thing in [0, 1] + things:
                with self.assertRaises(NoNumber, msg=thing):
                    acts(TWO, (side, ()), thing)

    def test_too_many(self):
        for order in OVER_600:
            for number in range(4):
                with self.assertRaises(TooMany):
                    acts(FOUR, order, number)
            for thing in (-1, 4, True, "0", None, [0], (0,)):
                with self.assertRaises(NoNumber, msg=thing):
                    acts(FOUR, order, thing)


if __name__ == "__main__":
    unittest.main()
