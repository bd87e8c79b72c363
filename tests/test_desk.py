"""[22]: rows that are said to a desk, and its answers."""

import unittest

from soundrules.changing import made, walk
from soundrules.checker import holds
from soundrules.daughters import common
from soundrules.desk import Desk
from soundrules.errors import NoCall, NoKept, NoNumber, NoSide, NoText, SoundError, TooMany
from soundrules.likeness import alike
from soundrules.machines import least_machine
from soundrules.orderings import acts
from soundrules.sources import source_at, sources
from soundrules.texts import show_order
from tests.helper import (
    FOUR, JUST_600, ODD_THINGS, ONE, OVER_600, THREE, TWO, Dice, all_words, many_orders, rule, thrown_word)

FALL = "along a>0 / a _ *"
SIDES = ("left", "right")


def told(desk, rows):
    return [desk.say(row) for row in rows]


class Rows(unittest.TestCase):
    def test_each_row_left(self):
        desk = Desk(THREE)
        self.assertEqual(told(desk, [
            "order x left; once a>d e>0 / #a _ *; along 0>d / d _ d", "show x", "make x aea", "walk x eaea", "order y left",
            "show y", "alike x x", "alike x y", "sources x d", "source x d 0", "source x d 3", "sources x a", "acts x 0", "acts x 1",
            "machine x", "machine y", "common x y d d", "common x y d e", "common x y a e", "paper",
        ]), [
            "ok", "left; once a>d e>0 / #a _ *; along 0>d / d _ d", "da", "eaea aa aa", "ok",
            "left", "alike", "a", "4", "a", "ed", "2", "a", "aa",
            "4", "1", "1", "none", "none", "holds",
        ])

    def test_right(self):
        desk = Desk(TWO)
        self.assertEqual(told(desk, [
            "order fall right; along a>0 / * _ a", "make fall aab", "make fall baa", "walk fall aaa", "sources fall ba", "sources fall baa",
            "source fall ba 0", "source fall ba 7", "order none right", "alike none fall", "acts fall 0", "machine fall",
            "common fall none a a", "common fall fall a a", "common fall none a b", "order y right; once b>a / * _ #", "source y a 1",
            "sources y aa", "source y aa 0", "source y aa 1",
        ]), [
            "ok", "ab", "ba", "aaa a", "endless", "none",
            "ba", "baaaaaaaa", "ok", "aa", "aa", "2",
            "1", "endless", "none", "ok", "b",
            "2", "aa", "ab",
        ])

    def test_a_word_without_sounds_is_told_as_0(self):
        for side in SIDES:
            desk = Desk(TWO)
            self.assertEqual(told(desk, [
                f"order drop {side}; once a>0 b>0 / * _ *", f"order put {side}; once 0>a / # _ #", f"order both {side}; once 0>a / # _ #; once a>0 / * _ *",
                f"order plain {side}",
                "make drop ab", "make drop 0", "make put 0", "make plain 0", "walk drop ba", "walk plain 0", "walk put 0", "walk both 0",
                "walk both ab", "alike put plain", "paper", "alike plain put", "sources drop 0", "source drop 0 0", "source drop 0 2", "sources put 0",
                "source plain 0 0", "acts put 0", "paper", "acts both 1", "common plain drop 0 0", "common plain put 0 a", "common plain put 0 0",
                "common drop drop 0 0",
            ]), [
                "ok", "ok", "ok", "ok",
                "0", "0", "a", "0", "ba 0", "0", "0 a", "0 a 0",
                "ab ab b", "0", "holds", "0", "endless", "0", "b", "none",
                "0", "0", "holds", "0", "1", "1", "none",
                "endless",
            ])

    def test_never(self):
        for side in SIDES:
            desk = Desk(TWO)
            self.assertEqual(told(desk, [f"order x {side}; {FALL}; {FALL}", "acts x 0", "acts x 1", "paper"]), ["ok", "aa", "never", "holds"])

    def test_brackets_are_shown_as_signs(self):
        desk = Desk(THREE)
        self.assertEqual(told(desk, ["order x right; once d>0 / [vowel] _ [open]", "show x"]), ["ok", "right; once d>0 / ae _ a"])

    def test_names(self):
        desk = Desk(ONE)
        for name in ("a", "order", "paper", "abcdefgh", "z", "left"):
            self.assertEqual(told(desk, [f"order {name} left; once a>0 / * _ *", f"make {name} a", f"show {name}"]),
                             ["ok", "0", "left; once a>0 / * _ *"])

    def test_an_order_in_the_place_of_another_one(self):
        desk = Desk(TWO)
        self.assertEqual(told(desk, ["order x left; once a>b / * _ *", "make x a", "order x right", "make x a", "show x", "order x left; " + FALL,
                                     "show x"]),
                         ["ok", "b", "ok", "a", "right", "ok", "left; " + FALL])

    def test_many_sources_and_numbers_of_two_figures(self):
        desk = Desk(TWO)
        desk.say("order x left; once a>b / * _ *")
        self.assertEqual(desk.say("sources x " + "b" * 100), str(2 ** 100))
        self.assertEqual(desk.say("source x " + "b" * 100 + " 0"), "a" * 100)
        self.assertEqual(desk.say("source x " + "b" * 100 + " 99"), "a" * 93 + "bbaaabb")
        self.assertEqual(desk.say("source x bbb 7"), "bbb")
        self.assertEqual(desk.say("make x " + "ab" * 50), "b" * 100)

    def test_as_the_functions_tell(self):
        dice = Dice(231)
        for stock in (ONE, TWO, THREE):
            words = all_words(stock, 2)
            orders = many_orders(stock, 3, 20, 232)
            for one, other in zip(orders, orders[2:]):
                desk = Desk(stock)
                self.assertEqual(desk.say("order one " + show_order(one)), "ok")
                self.assertEqual(desk.say("order other " + show_order(other)), "ok")
                self.assertEqual(desk.say("show one"), show_order(one))
                word, form, second = dice.one_of(words), dice.one_of(words), made(other, dice.one_of(words))
                self.assertEqual(desk.say(f"make one {word or 0}"), made(one, word) or "0")
                self.assertEqual(desk.say("paper"), "holds")
                self.assertEqual(desk.say(f"walk one {word or 0}"), " ".join(each or "0" for each in walk(one, word)))
                parted = alike(stock, one, other)
                self.assertEqual(desk.say("alike one other"), "alike" if len(parted) == 1 else parted[1] or "0")
                self.assertEqual(desk.say("paper"), "holds")
                self.assertEqual(desk.say("alike one one"), "alike")
                self.assertEqual(desk.say("paper"), "holds")
                told_of = sources(stock, one, form)
                self.assertEqual(desk.say(f"sources one {form or 0}"), str(told_of[1]) if told_of[0] == "some" else told_of[0])
                if told_of[0] != "none":
                    self.assertEqual(desk.say(f"source one {form or 0} 0"), source_at(stock, one, form, 0) or "0")
                told_of = common(stock, one, other, form, second)
                self.assertEqual(desk.say(f"common one other {form or 0} {second or 0}"),
                                 str(told_of[1]) if told_of[0] == "some" else told_of[0])
                for number in range(len(one[1])):
                    acting = acts(stock, one, number)
                    self.assertEqual(desk.say(f"acts one {number}"), "never" if acting is None else acting or "0")
                    self.assertEqual(desk.say("paper"), "holds")
                self.assertEqual(desk.say("machine one"), str(len(least_machine(stock, one)[1])))
                self.assertEqual(desk.say("paper"), "holds")


class Papers(unittest.TestCase):
    def test_ahead_of_all(self):
        desk = Desk(TWO)
        self.assertEqual(told(desk, ["paper", "order x left; " + FALL, "paper", "show x", "walk x aa", "sources x a", "source x a 0",
                                     "common x x a a", "paper"]),
                         ["none", "ok", "none", "left; " + FALL, "aa a", "endless", "a", "endless", "none"])

    def test_behind_each(self):
        for row in ("make x aa", "alike x x", "alike x y", "acts x 0", "acts x 1", "machine x"):
            desk = Desk(TWO)
            told(desk, [f"order x left; {FALL}; {FALL}", "order y left", row])
            self.assertEqual(told(desk, ["paper", "paper", "walk x aa", "paper", "order x right", "paper"]),
                             ["holds", "holds", "aa a a", "holds", "ok", "holds"])

    def test_what_is_shown_is_the_last_answer(self):
        desk = Desk(TWO)
        told(desk, [f"order x left; {FALL}; {FALL}", "order y left"])
        seen = []
        for row, kind in (("make x aa", "makes"), ("alike x y", "parted"), ("alike x x", "alike"), ("acts x 0", "acts"),
                          ("acts x 1", "never"), ("machine x", "machine"), ("make y b", "makes")):
            desk.say(row)
            claim, paper = desk.last
            self.assertIs(holds(claim, paper), True)
            seen.append((claim[0], kind))
        self.assertTrue(all(one == other for one, other in seen))

    def test_what_does_not_hold(self):
        desk = Desk(TWO)
        told(desk, ["order x left; " + FALL, "make x aa"])
        claim, paper = desk.last
        desk.last = (claim[:4] + ("aa",), paper)
        self.assertEqual(desk.say("paper"), "no")

    def test_behind_refused_rows(self):
        desk = Desk(FOUR)
        told(desk, ["order x left; " + FALL, "order y right", "order far " + show_order(OVER_600[0])])
        refused = ["make x z", "make q a", "alike x y", "alike far far", "acts x 1", "acts far 4", "acts far 0", "machine far", "machine q",
                   "order x bad", "order x ", "order q left; bad", "source x a 100", "source x aa 0", "sources far a", "paper x", "nothing"]
        for row in refused:
            self.assertRaises(SoundError, desk.say, row)
            self.assertEqual(desk.say("paper"), "none")
        desk.say("make x aa")
        kept = desk.last
        for row in refused:
            self.assertRaises(SoundError, desk.say, row)
            self.assertEqual(desk.say("paper"), "holds")
            self.assertEqual(desk.last, kept)
        # Neither is what is kept changed.
        self.assertEqual(told(desk, ["show x", "show y", "show far"]), ["left; " + FALL, "right", show_order(OVER_600[0])])
        self.assertRaises(NoKept, desk.say, "show q")

    def test_two_desks_at_once(self):
        one, other = Desk(TWO), Desk(THREE)
        self.assertEqual(one.say("order x left; " + FALL), "ok")
        self.assertRaises(NoKept, other.say, "show x")
        self.assertEqual(other.say("order x right; once d>0 / * _ *"), "ok")
        self.assertEqual([one.say("make x aab"), other.say("paper"), one.say("paper")], ["ab", "none", "holds"])
        self.assertEqual([other.say("make x dad"), one.say("show x"), other.say("show x")],
                         ["a", "left; " + FALL, "right; once d>0 / * _ *"])
        self.assertRaises(NoCall, one.say, "make x d")
        self.assertRaises(NoCall, other.say, "make x b")
        self.assertEqual(Desk(TWO).say("paper"), "none")


class Refused(unittest.TestCase):
    def setUp(self):
        self.desk = Desk(TWO)
        told(self.desk, ["order x left; " + FALL, "order y left", "order r right"])

    def no_call(self, row):
        with self.assertRaises(NoCall, msg=row) as caught:
            self.desk.say(row)
        self.assertEqual(caught.exception.row, row)

    def no_kept(self, row, name):
        with self.assertRaises(NoKept, msg=row) as caught:
            self.desk.say(row)
        self.assertEqual(caught.exception.name, name)

    def test_no_texts(self):
        for thing in ODD_THINGS + [["show x"], ("show", "x"), b"paper", {"paper": 1}]:
            self.no_call(thing)

    def test_first_words(self):
        for row in ("", " ", "Show x", "shows x", "made x a", "papers", "Paper", "order", "ok", "x", "0", "show\nx", "paper\n", "\npaper", "PAPER",
                    "classes x", "is_name x", "say paper"):
            self.no_call(row)

    def test_numbers_of_words(self):
        for row in ("show", "show x y", "make", "make x", "make x a a", "walk", "walk x", "walk x a b", "alike", "alike x", "alike x y r",
                    "sources", "sources x", "sources x a 0", "source", "source x", "source x a", "source x a 0 0", "acts", "acts x", "acts x 0 0",
                    "machine", "machine x y", "common", "common x", "common x y", "common x y a", "common x y a a a", "paper x", "paper paper",
                    "order", "order x", "order left;"):
            self.no_call(row)

    def test_blanks(self):
        for row in ("show x", "make x a", "walk x a", "alike x y", "sources x a", "source x a 0", "acts x 0", "machine x", "common x y a b", "paper"):
            self.desk.say(row)
            self.no_call(" " + row)
            self.no_call(row + " ")
            self.no_call(row + "\n")
            self.no_call(row.replace(" ", "\t", 1) + "\t")
            words = row.split(" ")
            for at in range(1, len(words)):
                self.no_call(" ".join(words[:at]) + "  " + " ".join(words[at:]))
        for row in (" order x left", "order  x left", "order ", "order  ", "order  left"):
            self.no_call(row)

    def test_names_that_are_none(self):
        for name in ("X", "x1", "0", "abcdefghi", "x;", "#", "x\n", "*", ""):
            for row in ("show {}", "make {} a", "walk {} a", "alike {} x", "alike x {}", "sources {} a", "source {} a 0", "acts {} 0",
                        "machine {}", "common {} x a a", "common x {} a a", "order {} left", "order {} "):
                self.no_call(row.format(name))

    def test_words_that_are_none(self):
        for word in ("d", "ad", "A", "00", "0a", "a0", "#", "a#", "*", "1", "a\n", "", "-"):
            for row in ("make x {}", "walk x {}", "sources x {}", "source x {} 0", "common x y {} a", "common x y a {}"):
                self.no_call(row.format(word))

    def test_numbers_that_are_none(self):
        for number in ("00", "01", "09", "100", "000", "+1", "-1", "-0", "1.", "a", "0x", "1a", "", "x", "1\n", "#", "12345678"):
            self.no_call(f"source x a {number}")
            self.no_call(f"acts x {number}")
        for number in ("0", "1", "9", "10", "99"):
            self.desk.say(f"source x a {number}")
            if number != "0":
                self.assertRaises(NoNumber, self.desk.say, f"acts x {number}")

    def test_no_kept(self):
        for row in ("show q", "make q a", "walk q 0", "alike q x", "alike x q", "sources q a", "source q a 0", "acts q 99", "machine q",
                    "common q x a a", "common x q a a", "common q r a a", "alike q r"):
            self.no_kept(row, "q")
        self.no_kept("alike p q", "p")
        self.no_kept("common q p a a", "q")
        self.no_kept("show paper", "paper")

    def test_no_text(self):
        for text, part in (("", 0), (" left", 0), ("left ", 0), ("up", 0), ("left;", 0), ("left; ", 1), ("left; bad", 1), ("left; " + FALL + " ", 1),
                           (f"left; {FALL}; once a>d / * _ *", 2), ("; ".join(["left"] + [FALL] * 5), 5), ("left\n", 0), ("left x", 0)):
            for name in ("x", "q"):
                with self.assertRaises(NoText) as caught:
                    self.desk.say(f"order {name} {text}")
                self.assertEqual(caught.exception.part, part, text)
        self.assertEqual(self.desk.say("show x"), "left; " + FALL)
        self.no_kept("show q", "q")

    def test_as_the_functions_refuse(self):
        for row in ("alike x r", "alike r x", "common x r a a", "common r y a a"):
            self.assertRaises(NoSide, self.desk.say, row)
        for row in ("source x aa 0", "source y a 1", "source y a 99", "acts x 1", "acts y 0", "acts r 99"):
            self.assertRaises(NoNumber, self.desk.say, row)

    def test_too_many(self):
        desk = Desk(FOUR)
        far = OVER_600[0]
        self.assertEqual(told(desk, ["order far " + show_order(far), "order right " + show_order(OVER_600[1]), "order y left"]), ["ok"] * 3)
        self.assertEqual(told(desk, ["show far", "make far abde", "paper", "walk far abde"]),
                         [show_order(far), made(far, "abde"), "holds", " ".join(walk(far, "abde"))])
        for row in ("machine far", "alike far far", "alike y far", "alike far y", "acts far 0", "acts far 3", "sources far a", "source far a 0",
                    "source far a 99", "common far y a a", "common y far a a"):
            self.assertRaises(TooMany, desk.say, row)
        for row in ("alike far right", "common far right a a", "common right far 0 0"):
            self.assertRaises(NoSide, desk.say, row)
        self.assertRaises(NoNumber, desk.say, "acts far 4")
        self.assertEqual(desk.say("order near " + show_order(JUST_600[0])), "ok")
        self.assertEqual(desk.say("machine near"), str(len(least_machine(FOUR, JUST_600[0])[1])))
        self.assertEqual(desk.say("paper"), "holds")

    def test_which_comes_first(self):
        # No call, then no kept, then as the functions refuse.
        for row in ("make q d", "alike q X", "common q p a d", "source q a 00", "acts q 01", "common x r a d", "source x aa 100", "order X bad",
                    "acts r 100"):
            self.no_call(row)
        self.no_kept("common x q a a", "q")
        self.no_kept("alike r q", "q")
        self.no_kept("acts q 9", "q")

    def test_a_row_of_400_signs(self):
        word = thrown_word(Dice(233), TWO, 100)
        self.assertEqual(self.desk.say("make y " + word), word)
        self.no_call("make y " + "d" * 393)
        text = "; ".join(["left"] + ["along a>b b>a / #ab _ #ab"] * 4)
        self.assertEqual(told(self.desk, ["order abcdefgh " + text, "show abcdefgh"]), ["ok", text])


if __name__ == "__main__":
    unittest.main()
