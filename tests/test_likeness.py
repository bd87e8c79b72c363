import unittest
from itertools import product

from soundrules.errors import NoSide, TooMany
from soundrules.likeness import alike
from soundrules.machines import least_machine
from soundrules.rules import turned
from tests.helper import FOUR, JUST_600, ONE, OVER_600, THREE, TWO, all_words, many_orders, naive_made, rule

SIDES = ("left", "right")


class Alike(unittest.TestCase):
    def told(self, stock, rules, others):
        """Orders of these rules do the same, on the side left, and turned about on the side right."""
        orders = [("left", rules), ("left", others)]
        back = [("right", tuple(turned(each) for each in rules)), ("right", tuple(turned(each) for each in others))]
        for one, other in (orders, orders[::-1], back, back[::-1]):
            self.assertEqual(alike(stock, one, other), ("alike",))
            for word in all_words(stock, 5):
                self.assertEqual(naive_made(one, word), naive_made(other, word), (one, other, word))

    def test_without_rules(self):
        self.told(ONE, (), ())
        self.told(FOUR, (), ())

    def test_written_otherwise(self):
        gone = rule("once", "a>")
        self.told(TWO, (gone,), (gone, gone))
        self.told(TWO, (gone,), (rule("along", "a>"),))
        self.told(TWO, (gone, rule("along", "a>b", "b")), (gone,))
        self.told(TWO, (rule("once", "a>b"), rule("once", "b>a")), (rule("along", "b>a"),))
        self.told(TWO, (rule("once", "a>b", "#ab", "#ab"),), (rule("along", "a>b"),))
        self.told(THREE, (rule("once", "a>d e>d"),), (rule("once", "e>d"), rule("once", "a>d")))

    def test_putting_in_once_and_along(self):
        for left, right in product((None, "#", "a", "#b", "ab"), repeat=2):
            self.told(TWO, (rule("once", ">b", left, right),), (rule("along", ">b", left, right),))

    def test_rules_that_undo_each_other(self):
        self.told(TWO, (rule("once", ">a", "#"), rule("once", "a>", "#")), ())
        self.told(TWO, (rule("once", "a>b b>a"), rule("along", "a>b b>a")), ())

    def test_rules_that_never_act(self):
        never = rule("once", "a>b", "a", "a")
        self.told(TWO, (rule("once", ">b"), never), (rule("once", ">b"),))

    def test_same_order_twice(self):
        for stock, seed in ((ONE, 51), (TWO, 52), (FOUR, 53)):
            for order in many_orders(stock, 3, 20, seed):
                self.assertEqual(alike(stock, order, order), ("alike",))
        for order in JUST_600:
            self.assertEqual(alike(FOUR, order, order), ("alike",))


class Parted(unittest.TestCase):
    def told(self, stock, one, other, word):
        self.assertEqual(alike(stock, one, other), ("parted", word))
        self.assertEqual(alike(stock, other, one), ("parted", word))

    def test_by_the_word_without_sounds(self):
        for side in SIDES:
            self.told(TWO, (side, (rule("once", ">a", "#", "#"),)), (side, ()), "")
            self.told(TWO, (side, (rule("once", ">a"),)), (side, (rule("once", ">b"),)), "")
            self.told(TWO, (side, (rule("once", ">a", "#"),)), (side, (rule("once", ">a", "#"),) * 2), "")

    def test_by_one_word_only(self):
        for side in SIDES:
            self.told(TWO, (side, (rule("once", "a>b", "#", "#"),)), (side, ()), "a")
            self.told(TWO, (side, (rule("along", "b>a", "#", "#"),)), (side, (rule("once", "b>", "#", "#"),)), "b")

    def test_as_it_stands(self):
        self.told(TWO, ("left", (rule("once", "a>b", "#", "b"),)), ("left", ()), "ab")
        self.told(TWO, ("right", (rule("once", "a>b", "#", "b"),)), ("right", ()), "ab")
        self.told(TWO, ("left", (rule("once", "a>b", "b", "#"),)), ("left", ()), "ba")
        self.told(TWO, ("right", (rule("once", "a>b", "b", "#"),)), ("right", ()), "ba")
        self.told(THREE, ("right", (rule("once", "d>", "a", "e"),)), ("right", ()), "ade")
        self.told(THREE, ("left", (rule("once", "d>", "a", "e"),)), ("left", ()), "ade")

    def test_once_and_along(self):
        # What was made of the first a bars the second one, of the side on which it is read.
        self.told(TWO, ("left", (rule("once", "a>b", "a"),)), ("left", (rule("along", "a>b", "a"),)), "aaa")
        self.told(TWO, ("right", (rule("once", "a>b", None, "a"),)), ("right", (rule("along", "a>b", None, "a"),)), "aaa")

    def test_far_off(self):
        rules = (rule("once", "a>", None, "#b"), rule("once", "b>", "#b", "#ab"), rule("along", "b>", "#b", "ab"),
                 rule("once", "a> b>a", "b"))
        others = rules[:2] + (rules[3], rules[2])
        for side, one, other in (("right", rules, others),
                                 ("left", tuple(map(turned, rules)), tuple(map(turned, others)))):
            self.assertEqual(len(alike(TWO, (side, one), (side, other))[1]), 9)
            self.check(TWO, (side, one), (side, other), 8)

    def check(self, stock, one, other, most):
        told = alike(stock, one, other)
        self.assertIs(type(told), tuple)
        self.assertEqual(alike(stock, one, other), told)
        self.assertEqual(told == ("alike",), least_machine(stock, one) == least_machine(stock, other))
        if told == ("alike",):
            for word in all_words(stock, most):
                self.assertEqual(naive_made(one, word), naive_made(other, word), (one, other, word))
            return
        self.assertEqual((len(told), told[0]), (2, "parted"))
        self.assertNotEqual(naive_made(one, told[1]), naive_made(other, told[1]), (one, other, told))
        for word in all_words(stock, min(most, len(told[1]) - 1)):
            self.assertEqual(naive_made(one, word), naive_made(other, word), (one, other, told, word))

    def test_many(self):
        for stock, most, seed in ((ONE, 9, 54), (TWO, 6, 55), (THREE, 4, 56)):
            orders = many_orders(stock, 3, 60, seed)
            for one, other in zip(orders[::2], orders[2::2]):
                self.check(stock, one, other, most)
            for one, other in zip(orders[1::2], orders[3::2]):
                self.check(stock, one, other, most)

    def test_rules_in_another_order(self):
        for stock, most, seed in ((TWO, 6, 57), (THREE, 4, 58), (FOUR, 3, 59)):
            for side, rules in many_orders(stock, 3, 40, seed):
                self.check(stock, (side, rules), (side, rules[::-1]), most)
                self.check(stock, (side, rules), (side, rules[1:]), most)

    def test_just_600(self):
        for side, rules in JUST_600:
            for at in range(4):
                self.check(FOUR, (side, rules), (side, rules[:at] + rules[at + 1:]), 3)


class Refusals(unittest.TestCase):
    def test_unlike_sides(self):
        one = ("left", (rule("once", "a>b"),))
        for orders in ((one, ("right", one[1])), (("right", ()), ("left", ())), (("right", ()), one)):
            with self.assertRaises(NoSide):
                alike(TWO, orders[0], orders[1])

    def test_too_many(self):
        for order in OVER_600:
            for other in (order, (order[0], ()), (order[0], order[1][:2])):
                for one, second in ((order, other), (other, order)):
                    with self.assertRaises(TooMany):
                        alike(FOUR, one, second)

    def test_unlike_sides_ahead_of_too_many(self):
        for side, rules in OVER_600:
            unlike = "left" if side == "right" else "right"
            for other in ((unlike, ()), (unlike, rules), JUST_600[0 if unlike == "left" else 1]):
                for one, second in (((side, rules), other), (other, (side, rules))):
                    with self.assertRaises(NoSide):
                        alike(FOUR, one, second)


if __name__ == "__main__":
    unittest.main()
