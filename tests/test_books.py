import unittest
from itertools import permutations

from soundrules.books import fewest, told_by
from tests.helper import (FOUR, ONE, OVER_600, THREE, TWO, Dice, many_orders, naive_made, rule, thrown_rule,
                          thrown_word)

SIDES = ("left", "right")
TO_B = rule("once", "a>b")
TO_A = rule("once", "b>a")


def tells(side, rules, row, book):
    order = (side, tuple(rules[number] for number in row))
    return all(naive_made(order, word) == form for word, form in book)


def telling(order, book):
    """All orderings that tell the book, rising."""
    return tuple(row for row in permutations(range(len(order[1]))) if tells(order[0], order[1], row, book))


class ToldBy(unittest.TestCase):
    def test_without_rules(self):
        for side in SIDES:
            self.assertEqual(told_by((side, ()), (("ab", "ab"),)), ("told", ((),)))
            self.assertEqual(told_by((side, ()), (("", ""),) * 6), ("told", ((),)))
            self.assertEqual(told_by((side, ()), (("ab", "ab"), ("ab", "ba"), ("a", "a"))), ("quarrel", (1,)))

    def test_by_one_ordering(self):
        for side in SIDES:
            self.assertEqual(told_by((side, (TO_B, TO_A)), (("ab", "aa"),)), ("told", ((0, 1),)))
            self.assertEqual(told_by((side, (TO_A, TO_B)), (("ab", "aa"), ("", ""))), ("told", ((1, 0),)))

    def test_by_several(self):
        three = (TO_B, TO_A, rule("once", "d>e"))
        for side in SIDES:
            self.assertEqual(told_by((side, three), (("abd", "aae"),)), ("told", ((0, 1, 2), (0, 2, 1), (2, 0, 1))))

    def test_by_all(self):
        same = (TO_B,) * 4
        for side in SIDES:
            self.assertEqual(told_by((side, same), (("ab", "bb"), ("", ""))), ("told", tuple(permutations(range(4)))))
            self.assertEqual(told_by((side, (TO_B, TO_A)), (("", ""), ("de", "de"))), ("told", ((0, 1), (1, 0))))

    def test_a_quarrel_of_one_pair(self):
        for side in SIDES:
            self.assertEqual(told_by((side, (TO_B, TO_A)), (("ab", "aa"), ("d", "e"), ("d", "d"))), ("quarrel", (1,)))

    def test_a_quarrel_of_two_pairs(self):
        for side in SIDES:
            self.assertEqual(told_by((side, (TO_B, TO_A)), (("", ""), ("a", "a"), ("b", "b"))), ("quarrel", (1, 2)))

    def test_a_quarrel_of_three_pairs(self):
        # Each pair wants one rule laid ahead of another one, and all three go round in a ring.
        rules = (rule("once", "a>b"), rule("once", "b>d"), rule("once", "d>a"))
        book = (("a", "b"), ("b", "d"), ("d", "a"))
        told = told_by(("left", rules), book)
        self.is_needed(("left", rules), book, told)
        self.assertEqual(told, ("quarrel", (0, 1, 2)))

    def is_needed(self, order, book, told):
        kind, numbers = told
        self.assertEqual(kind, "quarrel")
        self.assertIs(type(numbers), tuple)
        self.assertEqual(list(numbers), sorted(set(numbers)))
        self.assertLessEqual(set(numbers), set(range(len(book))))
        self.assertEqual(telling(order, [book[number] for number in numbers]), (), (order, book, told))
        for out in numbers:
            others = [book[number] for number in numbers if number != out]
            self.assertNotEqual(telling(order, others), (), (order, book, told))

    def check(self, order, book):
        told = told_by(order, book)
        self.assertEqual(told_by(order, book), told)
        right = telling(order, book)
        if right:
            self.assertEqual(told, ("told", right), (order, book))
        else:
            self.is_needed(order, book, told)
        return told

    def test_many(self):
        dice = Dice(91)
        sizes = set()
        for stock, seed in ((ONE, 92), (TWO, 93), (THREE, 94), (FOUR, 95)):
            for order in many_orders(stock, 4, 60, seed):
                rows = list(permutations(range(len(order[1]))))
                some = [dice.one_of(rows), dice.one_of(rows)]
                book = []
                for turn in range(1 + dice.below(6)):
                    word = thrown_word(dice, stock, dice.below(7))
                    laid = tuple(order[1][number] for number in dice.one_of(some))
                    book.append((word, naive_made((order[0], laid), word)))
                told = self.check(order, tuple(book))
                sizes.add((told[0], len(told[1]) if told[0] == "quarrel" else 0))
        self.assertLessEqual({("told", 0), ("quarrel", 2)}, sizes)

    def test_long_words(self):
        dice = Dice(96)
        for order in many_orders(FOUR, 3, 10, 97):
            words = [thrown_word(dice, FOUR, 100) for turn in range(6)]
            self.assertEqual(told_by(order, tuple((word, naive_made(order, word)) for word in words))[0], "told")
            self.check(order, tuple((word, naive_made(order, word)) for word in words))
            self.check(order, tuple((word, word) for word in words))

    def test_nothing_is_too_many(self):
        for order in OVER_600:
            self.check(order, (("abde", naive_made(order, "abde")), ("", "")))


class Fewest(unittest.TestCase):
    def test_none_needed(self):
        for side in SIDES:
            self.assertEqual(fewest(side, (), (("ab", "ab"),)), ())
            self.assertEqual(fewest(side, (TO_B, TO_A), (("", ""), ("d", "d"))), ())
            self.assertEqual(fewest(side, (TO_B,) * 5, (("b", "b"),) * 6), ())

    def test_one(self):
        for side in SIDES:
            self.assertEqual(fewest(side, (TO_A, TO_B), (("ab", "bb"),)), (1,))
            self.assertEqual(fewest(side, (TO_A, TO_B, TO_B), (("ab", "bb"), ("", ""))), (1,))

    def test_as_they_are_laid(self):
        chain = (rule("once", "d>e"), rule("once", "b>d"), rule("once", "a>b"))
        for side in SIDES:
            self.assertEqual(fewest(side, chain, (("a", "e"),)), (2, 1, 0))
            self.assertEqual(fewest(side, chain, (("a", "d"), ("b", "d"))), (2, 1))
            self.assertEqual(fewest(side, chain, (("a", "b"), ("b", "d"))), (1, 2))

    def test_all_five(self):
        rules = (rule("once", ">a", "#"), rule("once", "a>b", "#"), rule("once", ">d", "#"), rule("once", "d>e", "#"),
                 rule("once", ">a", "#"))
        self.assertEqual(fewest("left", rules, (("", "aeb"),)), (0, 1, 2, 3, 4))
        self.assertEqual(fewest("left", rules[::-1], (("", "aeb"),)), (0, 3, 2, 1, 4))

    def test_none_does(self):
        for side in SIDES:
            self.assertIsNone(fewest(side, (), (("ab", "ba"),)))
            self.assertIsNone(fewest(side, (TO_A, TO_B), (("ab", "ba"),)))
            # One rule twice would do it, but each is laid once at the most.
            self.assertIsNone(fewest(side, (rule("once", ">a", "#"),), (("", "aa"),)))
            self.assertEqual(fewest(side, (rule("once", ">a", "#"),) * 2, (("", "aa"),)), (0, 1))

    def test_the_side_counts(self):
        along = rule("along", "a>b", None, "a")
        self.assertEqual(fewest("left", (along,), (("aaa", "bba"),)), (0,))
        self.assertIsNone(fewest("right", (along,), (("aaa", "bba"),)))
        self.assertEqual(fewest("right", (along,), (("aaa", "aba"),)), (0,))

    def check(self, side, rules, book):
        told = fewest(side, rules, book)
        right = [row for many in range(len(rules) + 1) for row in permutations(range(len(rules)), many)
                 if tells(side, rules, row, book)]
        self.assertEqual(told, right[0] if right else None, (side, rules, book))
        self.assertEqual(fewest(side, rules, book), told)
        return told

    def test_many(self):
        dice = Dice(98)
        lengths = set()
        for turn in range(120):
            stock = (TWO, THREE, FOUR)[turn % 3]
            sounds = [sound for sound, marks in stock]
            rules = tuple(thrown_rule(dice, sounds) for at in range(dice.below(6)))
            side = SIDES[turn % 2]
            row = dice.one_of(list(permutations(range(len(rules)), min(len(rules), dice.below(5)))))
            laid = (side, tuple(rules[number] for number in row))
            words = [thrown_word(dice, stock, dice.below(7)) for at in range(1 + dice.below(6))]
            told = self.check(side, rules, tuple((word, naive_made(laid, word)) for word in words))
            lengths.add(len(told))
            self.check(side, rules, tuple((word, word[::-1]) for word in words))
        self.assertLessEqual({0, 1, 2, 3}, lengths)

    def test_long_words(self):
        dice = Dice(99)
        for side in SIDES:
            rules = tuple(thrown_rule(dice, ["a", "b", "d", "e"]) for at in range(5))
            words = [thrown_word(dice, FOUR, 100) for at in range(6)]
            order = (side, (rules[4], rules[1], rules[2]))
            told = fewest(side, rules, tuple((word, naive_made(order, word)) for word in words))
            self.assertTrue(tells(side, rules, told, [(word, naive_made(order, word)) for word in words]))
            self.assertLessEqual(len(told), 3)
            if len(told) == 3:
                self.assertLessEqual(told, (4, 1, 2))
            self.assertIsNone(fewest(side, rules, tuple((word, "") for word in words)))


if __name__ == "__main__":
    unittest.main()
