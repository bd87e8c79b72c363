import unittest

from soundrules.changing import made
from soundrules.errors import TooMany
from soundrules.standings import end_of, first_standing, read_on, standings
from tests.helper import (FOUR, JUST_600, ONE, OVER_600, THREE, TWO, Dice, all_words, many_orders, naive_cascade,
                          naive_made, naive_standings, rule, thrown_word)


def read_word(order, word):
    """The standing behind a word as it is read from the order's side, and all that is put out."""
    standing, whole = first_standing(order), ""
    for sound in word[::-1] if order[0] == "right" else word:
        standing, put = read_on(order, standing, sound)
        whole = whole + put
    return standing, whole


class OneRule(unittest.TestCase):
    def told(self, order, steps, end):
        """Steps: (sound, the one rule's standing behind it, what is put out)."""
        standing = first_standing(order)
        for sound, behind, put in steps:
            standing, told = read_on(order, standing, sound)
            self.assertEqual((standing, told), ((behind,), put))
        self.assertEqual(end_of(order, standing), end)

    def test_first(self):
        for left, near in ((None, True), ("#", True), ("#a", True), ("a", False), ("ab", False)):
            for way in ("once", "along"):
                for changes in ("a>b", "a>", ">a"):
                    self.assertEqual(first_standing(("left", (rule(way, changes, left, "a"),))), ((near, ""),))
                    self.assertEqual(first_standing(("right", (rule(way, changes, "a", left),))), ((near, ""),))

    def test_once(self):
        self.told(("left", (rule("once", "a>b", None, "#"),)),
                  [("a", (True, "a"), ""), ("b", (True, "b"), "a"), ("a", (True, "a"), "b")], "b")
        self.told(("left", (rule("once", "a>b", "b"),)),
                  [("b", (False, "b"), ""), ("a", (True, "a"), "b"), ("a", (False, "a"), "b"), ("a", (False, "a"), "a")],
                  "a")
        self.told(("left", (rule("once", "a>", "#"),)),
                  [("a", (True, "a"), ""), ("a", (False, "a"), ""), ("b", (False, "b"), "a")], "b")

    def test_along(self):
        self.told(("left", (rule("along", "a>b", "b"),)),
                  [("b", (False, "b"), ""), ("a", (True, "a"), "b"), ("a", (True, "a"), "b"), ("a", (True, "a"), "b")],
                  "b")
        self.told(("left", (rule("along", "a>", "#"),)),
                  [("a", (True, "a"), ""), ("a", (True, "a"), ""), ("b", (True, "b"), ""), ("a", (False, "a"), "b")],
                  "a")

    def test_putting_in(self):
        for way in ("once", "along"):
            self.told(("left", (rule(way, ">e", "a", "b"),)),
                      [("a", (True, "a"), ""), ("b", (False, "b"), "ae"), ("b", (False, "b"), "b")], "b")
            self.told(("left", (rule(way, ">e", "#", "a"),)), [("a", (False, "a"), "e")], "a")
            self.told(("left", (rule(way, ">e", "#", "#"),)), [], "e")
            self.told(("left", (rule(way, ">e", "#a", "#"),)), [("a", (True, "a"), "")], "ae")
            self.told(("left", (rule(way, ">e"),)), [("a", (True, "a"), "e"), ("b", (True, "b"), "ae")], "be")

    def test_from_the_right(self):
        self.told(("right", (rule("once", "a>b", None, "#"),)),
                  [("a", (True, "a"), ""), ("a", (False, "a"), "b"), ("b", (False, "b"), "a")], "b")
        self.told(("right", (rule("along", "a>b", "a", "b"),)),
                  [("b", (False, "b"), ""), ("a", (True, "a"), "b"), ("a", (True, "a"), "b"), ("b", (False, "b"), "a")],
                  "b")
        self.told(("right", (rule("once", ">e", "a", "b"),)),
                  [("b", (True, "b"), ""), ("a", (False, "a"), "be"), ("b", (True, "b"), "a")], "b")

    def test_no_sounds(self):
        self.told(("left", (rule("once", "a>b"),)), [], "")
        self.told(("left", (rule("along", "a>"),)), [], "")
        self.told(("left", (rule("along", ">b", "a"),)), [], "")


class SeveralRules(unittest.TestCase):
    def test_no_rules(self):
        for side in ("left", "right"):
            self.assertEqual(first_standing((side, ())), ())
            self.assertEqual(read_on((side, ()), (), "a"), ((), "a"))
            self.assertEqual(end_of((side, ()), ()), "")
            self.assertEqual(standings(TWO, (side, ())), ((),))

    def test_two_rules(self):
        order = ("left", (rule("once", "a>b"), rule("once", "b>d", None, "#")))
        self.assertEqual(first_standing(order), ((True, ""), (True, "")))
        self.assertEqual(read_word(order, "a"), (((True, "a"), (True, "")), ""))
        self.assertEqual(read_word(order, "aa"), (((True, "a"), (True, "b")), ""))
        self.assertEqual(read_word(order, "aaa"), (((True, "a"), (True, "b")), "b"))
        self.assertEqual(end_of(order, ((True, "a"), (True, "b"))), "bd")
        self.assertEqual(end_of(order, first_standing(order)), "")

    def test_the_end_is_read_by_each(self):
        order = ("left", (rule("once", ">a", "#", "#"), rule("once", "a>b", "#", "#"), rule("once", ">d", "b")))
        self.assertEqual(end_of(order, first_standing(order)), "bd")

    def test_what_is_put_in_is_read_sound_by_sound(self):
        order = ("left", (rule("once", ">b"), rule("along", "b>a", "a")))
        self.assertEqual(first_standing(order), ((True, ""), (False, "")))
        self.assertEqual(read_word(order, "a"), (((True, "a"), (False, "b")), ""))
        self.assertEqual(read_word(order, "aa"), (((True, "a"), (True, "b")), "ba"))
        self.assertEqual(end_of(order, ((True, "a"), (True, "b"))), "aaa")

    def test_all_together_is_what_the_order_makes(self):
        for stock, most in ((ONE, 6), (TWO, 5), (THREE, 4), (FOUR, 3)):
            for order in many_orders(stock, 4, 60, 21):
                for word in all_words(stock, most):
                    standing, whole = read_word(order, word)
                    whole = whole + end_of(order, standing)
                    self.assertEqual(whole[::-1] if order[0] == "right" else whole, made(order, word), (order, word))

    def test_each_step(self):
        for order in many_orders(THREE, 4, 60, 22):
            for standing in naive_standings(THREE, order):
                for sound in "ade":
                    self.assertEqual(read_on(order, standing, sound), naive_cascade(order, standing, sound, False))
                self.assertEqual(end_of(order, standing), naive_cascade(order, standing, "", True)[1])

    def test_long_words(self):
        dice = Dice(8)
        for order in many_orders(FOUR, 4, 40, 23):
            word = thrown_word(dice, FOUR, 100)
            standing, whole = read_word(order, word)
            whole = whole + end_of(order, standing)
            self.assertEqual(whole[::-1] if order[0] == "right" else whole, naive_made(order, word))


class AllStandings(unittest.TestCase):
    def test_one_rule(self):
        self.assertEqual(standings(TWO, ("left", (rule("once", "a>b", "b"),))),
                         (((False, ""),), ((False, "a"),), ((False, "b"),), ((True, "a"),), ((True, "b"),)))
        self.assertEqual(standings(ONE, ("left", (rule("once", ">a", "#"),))), (((False, "a"),), ((True, ""),)))
        self.assertEqual(standings(ONE, ("right", (rule("along", "a>", None, "#"),))), (((True, ""),), ((True, "a"),)))

    def test_many(self):
        for stock in (ONE, TWO, THREE):
            for order in many_orders(stock, 4, 60, 24):
                told = standings(stock, order)
                self.assertIsInstance(told, tuple)
                self.assertEqual(list(told), sorted(naive_standings(stock, order)), order)
                self.assertEqual(standings(stock, order), told)

    def test_kinds(self):
        for order in many_orders(TWO, 4, 20, 25):
            for standing in standings(TWO, order):
                for near, held in standing:
                    self.assertIsInstance(near, bool)
                    self.assertIn(held, ("", "a", "b"))

    def test_just_600(self):
        for order in JUST_600:
            self.assertEqual(len(naive_standings(FOUR, order)), 600)
            self.assertEqual(list(standings(FOUR, order)), sorted(naive_standings(FOUR, order)))

    def test_more_than_600(self):
        self.assertEqual([len(naive_standings(FOUR, order)) for order in OVER_600[:2]], [601, 601])
        self.assertGreater(len(naive_standings(FOUR, OVER_600[2])), 1000)
        for order in OVER_600:
            with self.assertRaises(TooMany):
                standings(FOUR, order)
            # A refusal of the whole refuses no single step.
            standing, whole = read_word(order, "abdeedba")
            whole = whole + end_of(order, standing)
            self.assertEqual(whole[::-1] if order[0] == "right" else whole, naive_made(order, "abdeedba"))


if __name__ == "__main__":
    unittest.main()
