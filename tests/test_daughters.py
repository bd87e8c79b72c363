import unittest

from soundrules.daughters import common, common_at, common_number, without_common
from soundrules.errors import NoNumber, NoSide, NoSource, TooMany
from soundrules.sources import number_of, source_at, sources
from tests.helper import (FOUR, JUST_600, ODD_THINGS, ONE, OVER_600, THREE, TWO, Dice, all_words, many_orders, naive_made,
                          rule, thrown_word)

SIDES = ("left", "right")
NO_NUMBERS = [-1, -2 ** 70, True, False, "0", "", "a", None, [], [0], (), (0,), {}, {0: 0}]


def as_numbered(words):
    return sorted(words, key=lambda word: (len(word), word))


class Common(unittest.TestCase):
    def shows_endless(self, orders, forms, told):
        kind, ahead, ring, behind = told
        self.assertEqual(kind, "endless")
        self.assertGreaterEqual(len(ring), 1)
        for many in range(4):
            for order, form in zip(orders, forms):
                self.assertEqual(naive_made(order, ahead + ring * many + behind), form, (orders, forms, told, many))


class Told(Common):
    def told(self, stock, one, other, form, second, words):
        """All common sources, in the order of their numbers."""
        self.assertEqual(common(stock, one, other, form, second), ("some", len(words)) if words else ("none",))
        self.assertEqual(common(stock, other, one, second, form), ("some", len(words)) if words else ("none",))
        for number, word in enumerate(words):
            self.assertEqual(common_at(stock, one, other, form, second, number), word)
            self.assertEqual(common_number(stock, one, other, form, second, word), number)
        with self.assertRaises(NoNumber):
            common_at(stock, one, other, form, second, len(words))

    def test_none(self):
        for side in SIDES:
            one, other = (side, (rule("once", "a>b"),)), (side, (rule("once", "b>a"),))
            self.told(TWO, one, other, "b", "b", [])
            self.told(TWO, one, other, "a", "a", [])
            # Each of the forms has sources, but they have none together.
            self.told(TWO, one, other, "bb", "a", [])
            self.told(TWO, (side, ()), (side, ()), "ab", "ba", [])

    def test_some(self):
        for side in SIDES:
            one, other = (side, (rule("once", "a>b"),)), (side, (rule("once", "d>b"),))
            self.told(FOUR, one, other, "bb", "ab", ["ab"])
            self.told(FOUR, one, other, "b", "b", ["b"])
            self.told(FOUR, one, (side, ()), "be", "ae", ["ae"])
            self.told(FOUR, one, one, "be", "be", ["ae", "be"])
            self.told(FOUR, (side, ()), (side, ()), "", "", [""])
            self.told(FOUR, (side, (rule("once", "a>b d>b"),)), (side, (rule("once", "b>d e>d"),)), "bb", "ad",
                      ["ab", "ad"])

    def test_alike_long_as_texts(self):
        for side in SIDES:
            one, other = (side, (rule("once", "a>b"),)), (side, (rule("once", "a>b", "b", "b"),))
            for form, second in (("bbb", "bbb"), ("bbb", "aba"), ("bbbb", "abbb")):
                words = [word for word in as_numbered(all_words(TWO, 4))
                         if naive_made(one, word) == form and naive_made(other, word) == second]
                self.told(TWO, one, other, form, second, words)

    def test_very_many(self):
        for side in SIDES:
            one, other = (side, (rule("once", "a>b"),)), (side, (rule("along", "b>", "#", "#"), rule("once", "a>b")))
            self.assertEqual(common(TWO, one, other, "b" * 100, "b" * 100), ("some", 2 ** 100))
            for number in (0, 1, 2 ** 50, 2 ** 99, 123456789 ** 3, 2 ** 100 - 1):
                word = bin(number)[2:].zfill(100).replace("0", "a").replace("1", "b")
                self.assertEqual(common_at(TWO, one, other, "b" * 100, "b" * 100, number), word)
                self.assertEqual(common_number(TWO, one, other, "b" * 100, "b" * 100, word), number)
            with self.assertRaises(NoNumber):
                common_at(TWO, one, other, "b" * 100, "b" * 100, 2 ** 100)

    def test_very_many_with_unlike_lengths(self):
        # One has lost a, the other one b: as many ways as there are to lay 30 of each, and no d.
        many = 1
        for turn in range(30):
            many = many * (60 - turn) // (turn + 1)
        for side in SIDES:
            one, other = (side, (rule("once", "a>"),)), (side, (rule("once", "b>"),))
            self.assertEqual(common(FOUR, one, other, "b" * 30, "a" * 30), ("some", many))
            self.assertEqual(common_at(FOUR, one, other, "b" * 30, "a" * 30, 0), "a" * 30 + "b" * 30)
            self.assertEqual(common_number(FOUR, one, other, "b" * 30, "a" * 30, "b" * 30 + "a" * 30), many - 1)
            self.assertEqual(common(FOUR, one, other, "bdb", "ada"), ("some", 4))

    def test_endless(self):
        for side in SIDES:
            one, other = (side, (rule("once", "a> b>"),)), (side, (rule("once", "a> d>"),))
            for form, second in (("", ""), ("d", "b"), ("dd", "b"), ("ee", "bee"), ("d" * 50, "b" * 50)):
                told = common(FOUR, one, other, form, second)
                self.shows_endless((one, other), (form, second), told)
            self.assertEqual(common(FOUR, one, other, "", ""), ("endless", "", "a", ""))
            self.assertEqual(common_at(FOUR, one, other, "", "", 100), "a" * 100)
            self.assertEqual(common_number(FOUR, one, other, "", "", "a" * 77), 77)
            self.assertEqual(common(FOUR, one, other, "a", ""), ("none",))

    def test_endless_as_it_stands(self):
        left = [("left", (rule("along", "a>", "d"),)), ("left", (rule("along", "a>", "d"), rule("once", "e>b")))]
        right = [("right", (rule("along", "a>", None, "d"),)), ("right", (rule("along", "a>", None, "d"), rule("once", "e>b")))]
        self.assertEqual(common(FOUR, left[0], left[1], "de", "db"), ("endless", "d", "a", "e"))
        self.assertEqual(common(FOUR, right[0], right[1], "ed", "bd"), ("endless", "e", "a", "d"))

    def test_each_endless_but_some_together(self):
        for side in SIDES:
            one, other = (side, (rule("once", "a>"),)), (side, (rule("once", "b>"),))
            self.assertEqual(sources(TWO, one, "b")[0], "endless")
            self.assertEqual(sources(TWO, other, "a")[0], "endless")
            self.told(TWO, one, other, "b", "a", ["ab", "ba"])
            self.told(TWO, one, other, "", "", [""])


class GoneThrough(Common):
    def check(self, stock, orders, forms, words, most):
        """Words are all common sources of at most so many sounds, as they are numbered."""
        one, other = orders
        form, second = forms
        told = common(stock, one, other, form, second)
        self.assertEqual(common(stock, one, other, form, second), told)
        if told == ("none",):
            self.assertEqual(words, [], (orders, forms))
        elif told[0] == "some":
            longest = common_at(stock, one, other, form, second, told[1] - 1)
            if len(longest) <= most:
                self.assertEqual(told, ("some", len(words)), (orders, forms))
            self.assertLessEqual(len(words), told[1])
            self.assertEqual([naive_made(one, longest), naive_made(other, longest)], [form, second])
            with self.assertRaises(NoNumber):
                common_at(stock, one, other, form, second, told[1])
        else:
            self.shows_endless(orders, forms, told)
        for number, word in list(enumerate(words))[:6]:
            self.assertEqual(common_at(stock, one, other, form, second, number), word, (orders, forms))
        for number, word in list(enumerate(words))[::5]:
            self.assertEqual(common_number(stock, one, other, form, second, word), number, (orders, forms))
        empty = () if told != ("none",) else (0,)
        self.assertEqual(without_common(stock, one, other, ((form, second),)), empty)
        return told[0]

    def check_orders(self, stock, orders, most, forms):
        kinds = set()
        for one, other in list(zip(orders[::2], orders[2::2])) + list(zip(orders[1::2], orders[3::2])):
            become = {}
            for word in as_numbered(all_words(stock, most)):
                become.setdefault((naive_made(one, word), naive_made(other, word)), []).append(word)
            asked = list(become)[:forms] + [(form, second) for form, second in zip(list(become)[0], list(become)[-1])]
            for pair in asked:
                kinds.add(self.check(stock, (one, other), pair, become.get(pair, []), most))
        self.assertEqual(kinds, {"none", "some", "endless"})

    def test_one_sound(self):
        self.check_orders(ONE, many_orders(ONE, 3, 40, 101), 8, 4)

    def test_two_sounds(self):
        self.check_orders(TWO, many_orders(TWO, 3, 40, 102), 6, 6)

    def test_three_sounds(self):
        self.check_orders(THREE, many_orders(THREE, 3, 24, 103), 4, 6)

    def test_the_same_order_twice(self):
        for order in many_orders(TWO, 2, 10, 104):
            for form in all_words(TWO, 2):
                self.assertEqual(common(TWO, order, order, form, form)[:1], sources(TWO, order, form)[:1])
                if sources(TWO, order, form)[0] == "some":
                    self.assertEqual(common(TWO, order, order, form, form), sources(TWO, order, form))


class LongOnes(Common):
    def test_words_of_100_sounds(self):
        dice = Dice(105)
        orders = many_orders(FOUR, 2, 24, 106)
        kinds = set()
        # Some with one rule more, so that what is left out without end by one is so by the other one, too.
        longer = [(side, rules + others[:1]) for (side, rules), (second, others) in zip(orders, orders[2:])]
        for one, other in list(zip(orders, orders[2:])) + list(zip(orders, longer)):
            word = thrown_word(dice, FOUR, 100)
            form, second = naive_made(one, word), naive_made(other, word)
            number = common_number(FOUR, one, other, form, second, word)
            self.assertEqual(common_at(FOUR, one, other, form, second, number), word)
            told = common(FOUR, one, other, form, second)
            kinds.add(told[0])
            if told[0] == "some":
                self.assertLess(number, told[1])
            else:
                self.shows_endless((one, other), (form, second), told)
        self.assertEqual(kinds, {"some", "endless"})

    def test_just_600_standings(self):
        for order in JUST_600:
            word = thrown_word(Dice(107), FOUR, 100)
            form = naive_made(order, word)
            # With the order without rules the word itself is the only one.
            self.assertEqual(common(FOUR, order, (order[0], ()), form, word), ("some", 1))
            self.assertEqual(common_at(FOUR, (order[0], ()), order, word, form, 0), word)
            self.assertEqual(common(FOUR, order, order, form, form), sources(FOUR, order, form))
            number = number_of(FOUR, order, form, word)
            self.assertEqual(common_number(FOUR, order, order, form, form, word), number)
            self.assertEqual(source_at(FOUR, order, form, number), word)


class WithoutCommon(unittest.TestCase):
    def test_no_pairs(self):
        for side in SIDES:
            self.assertEqual(without_common(TWO, (side, ()), (side, (rule("once", "a>b"),)), ()), ())
        for order in OVER_600:
            self.assertEqual(without_common(FOUR, order, order, ()), ())

    def test_several(self):
        for side in SIDES:
            one, other = (side, (rule("once", "a>b"),)), (side, (rule("once", "d>"),))
            pairs = (("b", "a"), ("b", "e"), ("", ""), ("a", "a"), ("ded", "e"), ("bd", "ba"))
            self.assertEqual(without_common(FOUR, one, other, pairs), (1, 3, 5))
            self.assertEqual(without_common(FOUR, one, other, pairs[:1]), ())
            self.assertEqual(without_common(FOUR, one, other, pairs[1:2] * 6), (0, 1, 2, 3, 4, 5))

    def test_endless_ones_are_not_among_them(self):
        for side in SIDES:
            order = (side, (rule("once", "a>"),))
            self.assertEqual(without_common(TWO, order, order, (("b", "b"), ("a", "b"), ("bb", "b"), ("", ""))), (1, 2))


class Refusals(unittest.TestCase):
    ONE_LEFT = ("left", (rule("once", "a>b"),))
    TWO_LEFT = ("left", (rule("once", "a>b", "#"),))

    def test_numbers(self):
        for number in NO_NUMBERS + [2, 3, 10 ** 30]:
            with self.assertRaises(NoNumber, msg=number):
                common_at(TWO, self.ONE_LEFT, self.TWO_LEFT, "bb", "bb", number)
        for number in NO_NUMBERS + [0, 1]:
            with self.assertRaises(NoNumber, msg=number):
                common_at(TWO, self.ONE_LEFT, self.TWO_LEFT, "bb", "a", number)
        for number in NO_NUMBERS + [thing for thing in ODD_THINGS if type(thing) is not int]:
            with self.assertRaises(NoNumber, msg=number):
                common_at(TWO, ("right", (rule("once", "a>"),)), ("right", (rule("along", "a>"),)), "b", "b", number)

    def test_sources(self):
        # The first two come to one of the forms, not to both.
        for thing in ["aa", "ba", "", "b", "bbb", "db", "b#"] + ODD_THINGS + [["ab"], ("ab",), b"ab"]:
            with self.assertRaises(NoSource, msg=thing):
                common_number(TWO, self.ONE_LEFT, self.TWO_LEFT, "bb", "bb", thing)
        self.assertEqual(common_number(TWO, self.ONE_LEFT, self.TWO_LEFT, "bb", "bb", "ab"), 0)
        with self.assertRaises(NoSource):
            common_number(TWO, self.TWO_LEFT, self.ONE_LEFT, "bb", "bb", "aa")

    def refused(self, error, stock, one, other):
        for form in ("", "a", "abde"):
            with self.assertRaises(error):
                common(stock, one, other, form, form)
            for number in (0, -1, True, None, "0"):
                with self.assertRaises(error):
                    common_at(stock, one, other, form, form, number)
            for pairs in (((form, form),), ((form, "a"),) * 6):
                with self.assertRaises(error):
                    without_common(stock, one, other, pairs)

    def test_sides(self):
        for one, other in ((self.ONE_LEFT, ("right", ())), (("right", ()), ("left", ()))):
            self.refused(NoSide, FOUR, one, other)
            with self.assertRaises(NoSide):
                without_common(TWO, one, other, ())
            for thing in ("", "a", None, 0, ["a"]):
                with self.assertRaises(NoSide):
                    common_number(TWO, one, other, "", "", thing)

    def test_too_many(self):
        for order in OVER_600:
            word = "abde"
            form = naive_made(order, word)
            for one, other, form, second in ((order, order, form, form), (order, (order[0], ()), form, word),
                                             ((order[0], ()), order, word, form)):
                self.refused(TooMany, FOUR, one, other)
                with self.assertRaises(TooMany):
                    common_number(FOUR, one, other, form, second, word)
                for thing in (None, 0, ["abde"], "abdz", "", "aaaaaaaaa"):
                    with self.assertRaises(NoSource):
                        common_number(FOUR, one, other, form, second, thing)

    def test_sides_ahead_of_too_many(self):
        for order in OVER_600:
            other = ("left" if order[0] == "right" else "right", ())
            for one, second in ((order, other), (other, order)):
                self.refused(NoSide, FOUR, one, second)
                with self.assertRaises(NoSide):
                    common_number(FOUR, one, second, "a", "a", None)
                with self.assertRaises(NoSide):
                    without_common(FOUR, one, second, ())


if __name__ == "__main__":
    unittest.main()
