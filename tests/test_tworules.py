import unittest
from itertools import product

from soundrules.changing import changed
from soundrules.rules import turned
from soundrules.tworules import makes_way, takes_from
from tests.helper import FOUR, ONE, THREE, TWO, Dice, all_words, naive_made, rule, thrown_rule

SIDES = ("left", "right")


def acts_on(side, rule, word):
    return naive_made((side, (rule,)), word) != word


def shows_way(side, one, other, word):
    return not acts_on(side, other, word) and acts_on(side, other, naive_made((side, (one,)), word))


def shows_taking(side, one, other, word):
    return acts_on(side, other, word) and not acts_on(side, other, naive_made((side, (one,)), word))


class Told(unittest.TestCase):
    def told(self, one, other, way, taking, stock=TWO):
        """The words that are told, of the rules on the side left, and turned about on the side right."""
        self.assertEqual(makes_way(stock, "left", one, other), way)
        self.assertEqual(takes_from(stock, "left", one, other), taking)
        self.assertEqual(makes_way(stock, "right", turned(one), turned(other)), way and way[::-1])
        self.assertEqual(takes_from(stock, "right", turned(one), turned(other)), taking and taking[::-1])

    def test_makes_way(self):
        self.told(rule("once", "a>b"), rule("once", "b>a"), "a", None)
        self.told(rule("along", "d>"), rule("once", "a>b", None, "e"), "ade", None, FOUR)
        self.told(rule("once", "d>", "a", "e"), rule("along", "a>b", None, "e"), "ade", None, FOUR)

    def test_takes(self):
        self.told(rule("once", "a>"), rule("along", "a>b"), None, "a")
        self.told(rule("once", "d>", "a", "e"), rule("along", "d>b", "a", "e"), None, "ade", FOUR)
        self.told(rule("along", ">d", "a", "b"), rule("once", "a>e", None, "b"), None, "ab", FOUR)

    def test_both(self):
        self.told(rule("once", "a>b b>a"), rule("along", "a>"), "b", "a")
        self.told(rule("once", "d>e e>d", "a"), rule("along", "d>b", "a"), "ae", "ad", FOUR)

    def test_neither(self):
        self.told(rule("once", "a>b"), rule("once", "d>e"), None, None, FOUR)
        self.told(rule("once", "a>b", "#"), rule("once", ">d"), None, None, FOUR)

    def test_the_word_without_sounds(self):
        self.told(rule("once", ">a"), rule("once", "a>b"), "", None)
        self.told(rule("once", ">a", "#", "#"), rule("along", ">b", "#", "#"), None, "")
        self.told(rule("along", ">b", "#", "#"), rule("once", "b>a", "#", "#"), "", None)

    def test_a_rule_and_itself(self):
        self.told(rule("once", "a>b"), rule("once", "a>b"), None, "a")
        self.told(rule("once", ">a"), rule("once", ">a"), None, None)
        self.told(rule("once", "a>b b>a"), rule("once", "a>b b>a"), None, None)
        self.told(rule("once", ">a", "#", "#"), rule("once", ">a", "#", "#"), None, "")
        # Of aab the second a falls, then stands no a between a and b any longer.
        self.told(rule("once", "a>", "a", "b"), rule("once", "a>", "a", "b"), None, "aab")
        # Each round leaves the edge one b nearer.
        self.told(rule("once", "b>", "#"), rule("once", "b>", "#"), None, "b")

    def test_as_it_stands(self):
        for side in SIDES:
            one, other = rule("once", "d>", "a", "b"), rule("once", "a>e", "#", "b")
            self.assertEqual(makes_way(FOUR, side, one, other), "adb")
            self.assertEqual(takes_from(FOUR, side, rule("once", "b>", "a", "#"), rule("once", "a>d", "#", "b")), "ab")

    def test_the_side_counts(self):
        # From the left aaa becomes bba, from the right aba, in which an a stands ahead of b.
        one, other = rule("along", "a>b", None, "a"), rule("once", "a>b", None, "b")
        self.assertEqual(makes_way(TWO, "left", one, other), None)
        self.assertEqual(makes_way(TWO, "right", one, other), "aaa")


class Sought(unittest.TestCase):
    def check(self, stock, side, one, other, most):
        for told, shows in ((makes_way(stock, side, one, other), shows_way),
                            (takes_from(stock, side, one, other), shows_taking)):
            short = most if told is None else min(most, len(told) - 1)
            for word in all_words(stock, short):
                self.assertFalse(shows(side, one, other, word), (side, one, other, told, word))
            if told is not None:
                self.assertIs(type(told), str)
                self.assertTrue(shows(side, one, other, told), (side, one, other, told))
                behind = changed(side, one, told)
                self.assertNotEqual(changed(side, other, told) == told, changed(side, other, behind) == behind)

    def check_many(self, stock, most, many, seed):
        dice = Dice(seed)
        sounds = [sound for sound, marks in stock]
        for turn in range(many):
            one, other = thrown_rule(dice, sounds), thrown_rule(dice, sounds)
            for side in SIDES:
                self.check(stock, side, one, other, most)
                self.check(stock, side, one, one, most)

    def test_one_sound(self):
        signs = [None, "#", "a", "#a"]
        rules = [rule(way, change, left, right)
                 for way, change, left, right in product(("once", "along"), (">a", "a>"), signs, signs)]
        for one, other in product(rules[::3], rules):
            self.check(ONE, "left", one, other, 6)

    def test_two_sounds(self):
        self.check_many(TWO, 6, 60, 71)

    def test_three_sounds(self):
        self.check_many(THREE, 4, 50, 72)

    def test_four_sounds(self):
        self.check_many(FOUR, 3, 50, 73)

    def test_the_same_each_time(self):
        dice = Dice(74)
        for turn in range(20):
            one, other = thrown_rule(dice, ["a", "b"]), thrown_rule(dice, ["a", "b"])
            self.assertEqual(makes_way(TWO, "left", one, other), makes_way(TWO, "left", one, other))
            self.assertEqual(takes_from(TWO, "right", one, other), takes_from(TWO, "right", one, other))


if __name__ == "__main__":
    unittest.main()
