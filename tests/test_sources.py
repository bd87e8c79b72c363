import unittest

from soundrules.errors import NoNumber, NoSource, TooMany
from soundrules.machines import least_machine
from soundrules.rules import turned
from soundrules.sources import number_of, source_at, sources
from tests.helper import (FOUR, JUST_600, ODD_THINGS, ONE, OVER_600, THREE, TWO, Dice, all_words, many_orders, naive_made,
                          rule, thrown_word)

SIDES = ("left", "right")
NO_NUMBERS = [-1, -2 ** 70, True, False, "0", "", "a", None, [], [0], (), (0,), {}, {0: 0}, b"0"]


def as_numbered(words):
    return sorted(words, key=lambda word: (len(word), word))


def both_sides(rules):
    """The order of the side left, and that of the side right that does the same to words turned about."""
    return [("left", rules), ("right", tuple(turned(each) for each in rules))]


class SourcesTests(unittest.TestCase):
    def shows_endless(self, stock, order, form, told):
        kind, ahead, ring, behind = told
        self.assertEqual(kind, "endless")
        self.assertGreaterEqual(len(ring), 1)
        for many in range(4):
            self.assertEqual(naive_made(order, ahead + ring * many + behind), form, (order, form, told, many))
        self.is_shown_ring(stock, order, told)

    def is_shown_ring(self, stock, order, told):
        """[19]: behind what is read first the ring leads from the state back to it and puts out nothing."""
        states = least_machine(stock, order)[1]
        places = {sound: at for at, (sound, marks) in enumerate(stock)}
        kind, ahead, ring, behind = told
        start, around = (ahead, ring) if order[0] == "left" else (behind[::-1], ring[::-1])
        state = 0
        for sound in start:
            state = states[state][1][places[sound]][1]
        here = state
        for sound in around:
            put, here = states[here][1][places[sound]]
            self.assertEqual(put, "", (order, told))
        self.assertEqual(here, state, (order, told))


class NoSources(SourcesTests):
    def test_no_source(self):
        for order in both_sides((rule("once", "a>b"),)):
            for form in ("a", "ab", "ba", "b" * 99 + "a", "a" * 100):
                self.assertEqual(sources(TWO, order, form), ("none",), form)
                self.assertEqual(sources(TWO, order, form[::-1]), ("none",), form)

    def test_the_form_without_sounds(self):
        for side in SIDES:
            self.assertEqual(sources(TWO, (side, (rule("once", ">b", "#"),)), ""), ("none",))
            self.assertEqual(sources(TWO, (side, (rule("once", ">b", "#", "#"),)), ""), ("none",))
            self.assertEqual(sources(TWO, (side, (rule("once", "a>", "#"),)), ""), ("some", 2))
            self.assertEqual(sources(ONE, (side, ()), ""), ("some", 1))
            self.assertEqual(source_at(TWO, (side, (rule("once", "a>", "#"),)), "", 1), "a")

    def test_what_is_put_out_first_is_another(self):
        for order in both_sides((rule("once", ">b", "#"),)):
            self.assertEqual(sources(TWO, order, "aa"), ("none",))
            self.assertEqual(sources(TWO, order, "bb"), ("some", 1))


class Some(SourcesTests):
    def told(self, stock, order, form, words):
        """All sources, in the order of their numbers."""
        self.assertEqual(sources(stock, order, form), ("some", len(words)))
        for number, word in enumerate(words):
            self.assertEqual(source_at(stock, order, form, number), word)
            self.assertEqual(number_of(stock, order, form, word), number)
        with self.assertRaises(NoNumber):
            source_at(stock, order, form, len(words))

    def test_one(self):
        for side in SIDES:
            for form in ("", "a", "abde", "ab" * 50):
                self.told(FOUR, (side, ()), form, [form])

    def test_two(self):
        self.told(TWO, ("left", (rule("once", "a>b", None, "#"),)), "aab", ["aaa", "aab"])
        self.told(TWO, ("left", (rule("once", "a>b", None, "#"),)), "b" * 99, ["b" * 98 + "a", "b" * 99])

    def test_alike_long_as_texts(self):
        for side in SIDES:
            self.told(TWO, (side, (rule("once", "a>b"),)), "bbb",
                      ["aaa", "aab", "aba", "abb", "baa", "bab", "bba", "bbb"])
            self.told(THREE, (side, (rule("once", "a>d e>d"),)), "dd",
                      ["aa", "ad", "ae", "da", "dd", "de", "ea", "ed", "ee"])
        self.told(TWO, ("left", (rule("once", "b>a", None, "#"),)), "ba", ["ba", "bb"])
        self.told(TWO, ("right", (rule("once", "b>a", "#"),)), "ab", ["ab", "bb"])

    def test_fewer_sounds_first(self):
        for side in SIDES:
            self.told(TWO, (side, (rule("once", "a>", "#"),)), "b", ["b", "ab"])
            self.told(TWO, (side, (rule("once", "a>", "#", "b"), rule("once", "a>b"))), "bb",
                      ["aa", "ba", "bb", "aba", "abb"])

    def test_very_many(self):
        for side in SIDES:
            order = (side, (rule("once", "a>b"),))
            self.assertEqual(sources(TWO, order, "b" * 100), ("some", 2 ** 100))
            for number in (0, 1, 2, 2 ** 50, 2 ** 99 - 1, 2 ** 99, 123456789 ** 3, 2 ** 100 - 2, 2 ** 100 - 1):
                word = bin(number)[2:].zfill(100).replace("0", "a").replace("1", "b")
                self.assertEqual(source_at(TWO, order, "b" * 100, number), word)
                self.assertEqual(number_of(TWO, order, "b" * 100, word), number)
            with self.assertRaises(NoNumber):
                source_at(TWO, order, "b" * 100, 2 ** 100)
            self.assertEqual(sources(FOUR, (side, (rule("once", "a>e b>e d>e"),)), "e" * 100), ("some", 4 ** 100))

    def test_many_lengths(self):
        # An a at the edge may have been there once more, each other sound is one of two.
        for side in SIDES:
            order = (side, (rule("once", "a>", "#"), rule("once", "a>b")))
            self.assertEqual(sources(TWO, order, "b" * 60), ("some", 2 ** 59 + 2 ** 60))
            self.assertEqual(number_of(TWO, order, "b" * 60, "b" + "a" * 59), 0)
            self.assertEqual(number_of(TWO, order, "b" * 60, "a" * 61), 2 ** 59)
            self.assertEqual(source_at(TWO, order, "b" * 60, 2 ** 59 + 2 ** 60 - 1), "a" + "b" * 60)


class Endless(SourcesTests):
    def test_left_out_anywhere(self):
        for order in both_sides((rule("once", "a>"),)):
            for form in ("", "b", "bb", "b" * 100):
                self.shows_endless(TWO, order, form, sources(TWO, order, form))
            self.assertEqual(sources(TWO, order, "ba"), ("none",))

    def test_one_sound_alone(self):
        for side in SIDES:
            self.assertEqual(sources(ONE, (side, (rule("along", "a>"),)), ""), ("endless", "", "a", ""))
            for number in (0, 1, 2, 77, 100, 1000):
                self.assertEqual(source_at(ONE, (side, (rule("along", "a>"),)), "", number), "a" * number)
            self.assertEqual(number_of(ONE, (side, (rule("along", "a>"),)), "", "a" * 100), 100)

    def test_as_they_stand(self):
        # An a is left out only behind d, or behind one that was: between d and e.
        left = ("left", (rule("along", "a>", "d"),))
        right = ("right", (rule("along", "a>", None, "d"),))
        told = sources(FOUR, left, "deb")
        self.shows_endless(FOUR, left, "deb", told)
        self.assertEqual(told, ("endless", "d", "a", "eb"))
        self.assertEqual(sources(FOUR, right, "bed"), ("endless", "be", "a", "d"))

    def test_ring_of_several_sounds(self):
        # Each b falls behind a, then each a behind d: what falls is a row of both.
        for order in both_sides((rule("once", "b>", "a"), rule("along", "a>", "d"), rule("once", "a>e b>e"))):
            told = sources(FOUR, order, "d")
            self.shows_endless(FOUR, order, "d", told)
            for word in ("d", "da", "dab", "daab", "dababa"):
                word = word if order[0] == "left" else word[::-1]
                self.assertEqual(source_at(FOUR, order, "d", number_of(FOUR, order, "d", word)), word)

    def test_numbers_far_on(self):
        for side in SIDES:
            order = (side, (rule("once", "a> b>"),))
            for number in (0, 1, 2, 3, 2 ** 20, 2 ** 64 + 5, 3 ** 60):
                # All words of two sounds: as many as there are numbers written with as many figures.
                word = bin(number + 1)[3:].replace("0", "a").replace("1", "b")
                self.assertEqual(source_at(TWO, order, "", number), word)
                self.assertEqual(number_of(TWO, order, "", word), number)
            self.assertEqual(number_of(TWO, order, "", "b" * 100), 2 ** 101 - 2)
            self.assertEqual(source_at(TWO, order, "", 2 ** 100 - 1), "a" * 100)
            with self.assertRaises(NoNumber):
                source_at(TWO, order, "a", 0)


class GoneThrough(SourcesTests):
    def check(self, stock, order, form, words):
        """Words are all sources up to some length, as they are numbered."""
        told = sources(stock, order, form)
        self.assertIs(type(told), tuple)
        self.assertEqual(sources(stock, order, form), told)
        if told == ("none",):
            self.assertEqual(words, [], (order, form))
        elif told[0] == "some":
            self.assertEqual((len(told), type(told[1])), (2, int))
            longest = source_at(stock, order, form, told[1] - 1)
            self.assertEqual(naive_made(order, longest), form, (order, form))
            if words and len(longest) <= self.most:
                self.assertEqual(told, ("some", len(words)), (order, form))
            self.assertLessEqual(len(words), told[1], (order, form))
            with self.assertRaises(NoNumber):
                source_at(stock, order, form, told[1])
        else:
            self.shows_endless(stock, order, form, told)
        for number, word in list(enumerate(words))[:12]:
            self.assertEqual(source_at(stock, order, form, number), word, (order, form))
        for number, word in list(enumerate(words))[::7]:
            self.assertEqual(number_of(stock, order, form, word), number, (order, form))

    def check_orders(self, stock, orders, most, forms):
        self.most = most
        for order in orders:
            become = {}
            for word in as_numbered(all_words(stock, most)):
                become.setdefault(naive_made(order, word), []).append(word)
            for form in forms:
                self.check(stock, order, form, become.get(form, []))

    def test_one_sound(self):
        self.check_orders(ONE, many_orders(ONE, 4, 60, 61), 8, all_words(ONE, 5))

    def test_two_sounds(self):
        self.check_orders(TWO, many_orders(TWO, 3, 40, 62), 7, all_words(TWO, 3))

    def test_three_sounds(self):
        self.check_orders(THREE, many_orders(THREE, 3, 20, 63), 5, all_words(THREE, 2))

    def test_four_sounds(self):
        self.check_orders(FOUR, many_orders(FOUR, 2, 16, 64), 4, all_words(FOUR, 1))


class LongOnes(SourcesTests):
    def check(self, order, word):
        form = naive_made(order, word)
        number = number_of(FOUR, order, form, word)
        self.assertEqual(source_at(FOUR, order, form, number), word)
        told = sources(FOUR, order, form)
        if told[0] == "some":
            self.assertLess(number, told[1])
            longest = source_at(FOUR, order, form, told[1] - 1)
            self.assertEqual(naive_made(order, longest), form)
            self.assertEqual(number_of(FOUR, order, form, longest), told[1] - 1)
        else:
            self.shows_endless(FOUR, order, form, told)
        return told[0]

    def test_words_of_100_sounds(self):
        dice = Dice(7)
        kinds = {self.check(order, thrown_word(dice, FOUR, 100)) for order in many_orders(FOUR, 3, 60, 65)}
        self.assertEqual(kinds, {"some", "endless"})

    def test_just_600_standings(self):
        dice = Dice(8)
        for order in JUST_600:
            self.check(order, thrown_word(dice, FOUR, 100))


class Refusals(SourcesTests):
    def test_numbers(self):
        one = ("left", (rule("once", "a>b"),))
        for order, form in ((one, "bb"), (("right", one[1]), "bb"), (one, "a"), (("left", (rule("once", "a>"),)), "")):
            for number in NO_NUMBERS:
                with self.assertRaises(NoNumber, msg=number):
                    source_at(TWO, order, form, number)
        for number in (0, 1, 2 ** 200):
            with self.assertRaises(NoNumber):
                source_at(TWO, one, "ba", number)
        for number in (4, 5, 2 ** 200):
            with self.assertRaises(NoNumber):
                source_at(TWO, one, "bb", number)

    def test_things_that_are_no_numbers(self):
        for thing in ODD_THINGS:
            if type(thing) is not int or thing < 0:
                with self.assertRaises(NoNumber, msg=thing):
                    source_at(TWO, ("right", (rule("once", "a> b>"),)), "", thing)

    def test_words_that_are_no_sources(self):
        for order in both_sides((rule("once", "a>b"),)):
            for word in ("", "a", "bbb", "aab", "ad", "d", "b#", "AB", "ab "):
                with self.assertRaises(NoSource, msg=word):
                    number_of(TWO, order, "bb", word)
        with self.assertRaises(NoSource):
            number_of(TWO, ("left", ()), "ab", "ba")

    def test_things_that_are_no_sources(self):
        for side in SIDES:
            for form in ("", "a", "aa"):
                for thing in ODD_THINGS + [("a",), ["a", "a"], b"a", {"a": "a"}, ("",)]:
                    with self.assertRaises(NoSource, msg=thing):
                        number_of(ONE, (side, ()), form, thing)

    def test_too_many(self):
        for order in OVER_600:
            for form in (naive_made(order, "abde"), "", "aaaa"):
                with self.assertRaises(TooMany):
                    sources(FOUR, order, form)
                for number in [0, 1] + NO_NUMBERS:
                    with self.assertRaises(TooMany):
                        source_at(FOUR, order, form, number)

    def test_too_many_behind_no_source(self):
        for order in OVER_600:
            form = naive_made(order, "abde")
            with self.assertRaises(TooMany):
                number_of(FOUR, order, form, "abde")
            for thing in [None, 0, ["abde"], "abdz", form + "a" * 9]:
                with self.assertRaises(NoSource):
                    number_of(FOUR, order, form, thing)


if __name__ == "__main__":
    unittest.main()
