import unittest

from soundrules.changing import changed, made, walk
from soundrules.rules import turned
from tests.helper import (FOUR, ONE, THREE, TWO, Dice, all_words, many_orders, naive_made, naive_walk, rule,
                          thrown_word)


class Once(unittest.TestCase):
    def told(self, changes, left, right, words):
        for word, form in words.items():
            self.assertEqual(changed("left", rule("once", changes, left, right), word), form, word)
            # At once is at once from either side.
            self.assertEqual(changed("right", rule("once", changes, left, right), word), form, word)

    def test_everywhere(self):
        self.told("a>b", None, None, {"": "", "a": "b", "b": "b", "abae": "bbbe"})
        self.told("a>b b>a", None, None, {"ab": "ba", "aabb": "bbaa"})

    def test_between_neighbours_as_they_were(self):
        self.told("a>b", "a", None, {"aaa": "abb", "a": "a", "baab": "babb"})
        self.told("a>b", None, "a", {"aaa": "bba", "ab": "ab"})
        self.told("a>b", "b", None, {"baaa": "bbaa"})
        self.told("a>b b>a", "a", "b", {"abab": "abab", "aabb": "abab"})

    def test_the_edge(self):
        self.told("a>b", "#", None, {"aa": "ba", "a": "b", "": "", "ba": "ba"})
        self.told("a>b", None, "#", {"aa": "ab", "a": "b", "ab": "ab"})
        self.told("a>b", "#", "#", {"a": "b", "aa": "aa", "": ""})
        self.told("a>b", "#b", "#e", {"a": "b", "bae": "bbe", "aba": "abb", "eae": "eae"})

    def test_leaving_out(self):
        self.told("a>", None, None, {"aba": "b", "aa": "", "": ""})
        self.told("a>", "#", None, {"aab": "ab"})
        self.told("a> b>a", "b", "#a", {"bab": "bab", "baa": "ba", "bb": "ba"})


class Along(unittest.TestCase):
    def told(self, changes, left, right, words):
        for word, form in words.items():
            self.assertEqual(changed("left", rule("along", changes, left, right), word), form, word)
            # The same, seen in a mirror.
            self.assertEqual(changed("right", turned(rule("along", changes, left, right)), word[::-1]), form[::-1], word)

    def test_left_is_what_has_been_made(self):
        self.told("a>b", "a", None, {"aaa": "aba", "aaaa": "abab"})
        self.told("a>b", "b", None, {"baaa": "bbbb", "aab": "aab", "eaba": "eabb"})

    def test_right_is_the_word_as_it_was(self):
        self.told("a>b", None, "a", {"aaa": "bba"})
        self.told("a>b", None, "b", {"aab": "abb"})
        self.told("a>b", None, "#", {"aa": "ab", "": ""})

    def test_what_is_left_out_is_no_neighbour(self):
        self.told("a>", "#", None, {"aab": "b", "aaa": "", "ba": "ba", "": ""})
        self.told("a>", "b", None, {"baae": "be", "abaa": "ab"})
        self.told("a>", None, "a", {"aaa": "a"})
        self.told("a> b>e", "#e", None, {"abb": "ee", "aabab": "ee", "dab": "dab"})

    def test_unlike_once(self):
        for changes, left, right, word, once, along in [("a>b", "a", None, "aaa", "abb", "aba"),
                                                         ("a>b", "b", None, "baaa", "bbaa", "bbbb"),
                                                         ("a>", "#", None, "aab", "ab", "b")]:
            self.assertEqual(changed("left", rule("once", changes, left, right), word), once)
            self.assertEqual(changed("left", rule("along", changes, left, right), word), along)


class PuttingIn(unittest.TestCase):
    def told(self, new, left, right, words):
        for word, form in words.items():
            for way in ("once", "along"):
                for side in ("left", "right"):
                    self.assertEqual(changed(side, rule(way, ">" + new, left, right), word), form, (way, side, word))

    def test_between_sounds(self):
        self.told("e", "a", "b", {"abab": "aebaeb", "ba": "ba", "": ""})
        self.told("a", "a", None, {"aa": "aaaa", "ba": "baa", "b": "b"})

    def test_at_the_edges(self):
        self.told("e", "#", "#", {"": "e", "a": "a"})
        self.told("e", "#", None, {"": "e", "a": "ea", "aa": "eaa"})
        self.told("e", None, "#", {"": "e", "a": "ae", "aa": "aae"})
        self.told("e", "#a", "#b", {"": "e", "b": "eb", "a": "ae", "ab": "aeb"})
        self.told("e", "a", "#", {"": "", "a": "ae", "ba": "bae", "ab": "ab"})

    def test_everywhere(self):
        self.told("e", None, None, {"": "e", "ab": "eaebe"})

    def test_nowhere(self):
        self.told("e", "e", "e", {"": "", "e": "e", "ee": "eee"})


class Sides(unittest.TestCase):
    def test_the_side_right_goes_from_the_last(self):
        spread = rule("along", "a>b", None, "b")
        self.assertEqual(changed("right", spread, "aaab"), "bbbb")
        self.assertEqual(changed("left", spread, "aaab"), "aabb")
        cut = rule("along", "a>", None, "#")
        self.assertEqual(changed("right", cut, "baa"), "b")
        self.assertEqual(changed("left", cut, "baa"), "ba")

    def test_left_stays_left(self):
        self.assertEqual(changed("right", rule("along", "a>b", "b"), "baaa"), "bbaa")
        self.assertEqual(changed("right", rule("once", ">e", "#"), "ab"), "eab")

    def test_the_word_turned_about(self):
        for stock in (TWO, THREE):
            for side, rules in many_orders(stock, 4, 60, 11):
                for word in all_words(stock, 3):
                    mirror = tuple(turned(each) for each in rules)
                    self.assertEqual(made(("right", rules), word), made(("left", mirror), word[::-1])[::-1])


class Orders(unittest.TestCase):
    def test_no_rules(self):
        for side in ("left", "right"):
            for word in ("", "ab", "ba" * 50):
                self.assertEqual(made((side, ()), word), word)
                self.assertEqual(walk((side, ()), word), (word,))

    def test_each_on_what_the_one_ahead_made(self):
        first, second = rule("once", "a>b"), rule("once", "b>e")
        self.assertEqual(walk(("left", (first, second)), "ab"), ("ab", "bb", "ee"))
        self.assertEqual(walk(("left", (second, first)), "ab"), ("ab", "ae", "be"))
        self.assertEqual(made(("left", (first, second)), "ab"), "ee")

    def test_four_rules(self):
        rules = (rule("once", ">e", "#"), rule("along", "a>b", "be"), rule("once", "e>", "#"), rule("along", "b>", "b"))
        self.assertEqual(walk(("left", rules), "aab"), ("aab", "eaab", "ebbb", "bbb", "b"))
        self.assertEqual(walk(("right", rules), "aab"), ("aab", "eaab", "ebab", "bab", "bab"))
        self.assertEqual(made(("left", rules), ""), "")
        self.assertEqual(walk(("left", rules), ""), ("", "e", "e", "", ""))

    def test_the_walk_of_the_side_right_is_not_turned_about(self):
        rules = (rule("along", "a>b", None, "b"), rule("once", "b>e", "#"), rule("once", ">d", None, "#"))
        self.assertEqual(walk(("right", rules), "aab"), ("aab", "bbb", "ebb", "ebbd"))
        self.assertEqual(walk(("left", rules), "aab"), ("aab", "abb", "abb", "abbd"))

    def test_many(self):
        for stock, most in ((ONE, 6), (TWO, 5), (THREE, 4), (FOUR, 3)):
            for order in many_orders(stock, 4, 80, 5):
                for word in all_words(stock, most):
                    self.assertEqual(walk(order, word), naive_walk(order, word), (order, word))
                    self.assertEqual(made(order, word), naive_made(order, word))

    def test_kinds(self):
        order = ("right", (rule("once", "a>b"),))
        self.assertIsInstance(walk(order, "ab"), tuple)
        self.assertIsInstance(made(order, "ab"), str)
        self.assertIsInstance(changed("left", order[1][0], ""), str)


class LongWords(unittest.TestCase):
    def test_ways(self):
        self.assertEqual(changed("left", rule("once", "a>b", "a"), "a" * 100), "a" + "b" * 99)
        self.assertEqual(changed("left", rule("along", "a>b", "a"), "a" * 100), "ab" * 50)
        self.assertEqual(changed("left", rule("along", "a>b", "b"), "b" + "a" * 99), "b" * 100)
        self.assertEqual(changed("right", rule("along", "a>", None, "#"), "a" * 100), "")
        self.assertEqual(changed("left", rule("once", ">e"), "a" * 100), "ea" * 100 + "e")

    def test_orders(self):
        doubling = ("left", (rule("once", ">a"),) * 4)
        self.assertEqual(made(doubling, "a" * 100), "a" * 1615)
        dice = Dice(4)
        for order in many_orders(FOUR, 4, 60, 9):
            word = thrown_word(dice, FOUR, 100)
            self.assertEqual(walk(order, word), naive_walk(order, word))


if __name__ == "__main__":
    unittest.main()
