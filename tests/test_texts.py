"""[21]: stocks, rules and orders written and read."""

import unittest

from soundrules.errors import NoText, SoundError
from soundrules.texts import read_order, read_rule, read_stock, show_order, show_rule, show_stock
from tests.helper import FOUR, ODD_THINGS, ONE, THREE, TWO, Dice, many_orders, rule, thrown_rule

STOCKS = [
    (ONE, "a"),
    (TWO, "a vowel, b"),
    (THREE, "a open vowel, d stop, e vowel"),
    (FOUR, "a, b, d, e"),
    ((("z", ()),), "z"),
    ((("a", ("a", "b", "c", "d")), ("b", ("abcdefgh",)), ("y", ()), ("z", ("z", "zz"))), "a a b c d, b abcdefgh, y, z z zz"),
]
# Of THREE: a is open and a vowel, d a stop, e a vowel.
RULES = [
    (rule("once", "a>d e>", "#a"), "once a>d e>0 / #a _ *"),
    (rule("along", ">e", None, "#"), "along 0>e / * _ #"),
    (rule("once", "a>", "#ade", "#ade"), "once a>0 / #ade _ #ade"),
    (rule("along", "a>e d> e>a", "d", None), "along a>e d>0 e>a / d _ *"),
    (rule("once", "d>a"), "once d>a / * _ *"),
]
NOT_TEXTS = [thing for thing in ODD_THINGS if not isinstance(thing, str)] + [b"a", ["left"], ("left",), b"left"]


class Shown(unittest.TestCase):
    def test_stocks(self):
        for stock, text in STOCKS:
            self.assertEqual(show_stock(stock), text)
            self.assertEqual(read_stock(text), stock)

    def test_rules(self):
        for own, text in RULES:
            self.assertEqual(show_rule(own), text)
            self.assertEqual(read_rule(THREE, text), own)

    def test_the_example_of_the_document(self):
        stock = (("a", ()), ("b", ()), ("e", ()))
        own = ("once", (("a", "b"), ("e", "")), ("#", "a"), None)
        self.assertEqual(show_rule(own), "once a>b e>0 / #a _ *")
        self.assertEqual(read_rule(stock, "once a>b e>0 / #a _ *"), own)

    def test_orders(self):
        for side in ("left", "right"):
            self.assertEqual(show_order((side, ())), side)
            self.assertEqual(read_order(THREE, side), (side, ()))
            for many in range(1, 5):
                order = (side, tuple(own for own, text in RULES[:many]))
                text = "; ".join([side] + [text for own, text in RULES[:many]])
                self.assertEqual(show_order(order), text)
                self.assertEqual(read_order(THREE, text), order)
        self.assertEqual(show_order(("right", (RULES[1][0], RULES[4][0]))), "right; along 0>e / * _ #; once d>a / * _ *")

    def test_all_that_is_shown_is_read(self):
        for stock in (ONE, TWO, THREE, FOUR):
            for order in many_orders(stock, 4, 100, 221):
                text = show_order(order)
                self.assertRegex(text, r"\A[ -~]{4,400}\Z")
                self.assertEqual(read_order(stock, text), order)
                for own in order[1]:
                    self.assertEqual(read_rule(stock, show_rule(own)), own)
        dice = Dice(222)
        letters = "abcdefghijklmnopqrstuvwxyz"
        for turn in range(200):
            sounds = sorted({dice.one_of(letters) for at in range(1 + dice.below(4))})
            stock = tuple((sound, tuple(sorted({"".join(dice.one_of(letters) for k in range(1 + dice.below(8)))
                                                for at in range(dice.below(5))}))) for sound in sounds)
            self.assertEqual(read_stock(show_stock(stock)), stock)
            own = thrown_rule(dice, sounds)
            self.assertEqual(read_rule(stock, show_rule(own)), own)


class Brackets(unittest.TestCase):
    def read(self, left, right):
        way, changes, *signs = read_rule(THREE, f"once a>d / {left} _ {right}")
        self.assertEqual((way, changes), ("once", (("a", "d"),)))
        return tuple(signs)

    def test_on_either_side_and_both(self):
        self.assertEqual(self.read("[vowel]", "*"), (("a", "e"), None))
        self.assertEqual(self.read("*", "[vowel]"), (None, ("a", "e")))
        self.assertEqual(self.read("[stop]", "[vowel]"), (("d",), ("a", "e")))
        self.assertEqual(self.read("#a", "[stop]"), (("#", "a"), ("d",)))

    def test_marks_in_any_order_any_number(self):
        for text in ("[open]", "[open vowel]", "[vowel open]", "[open open]", "[vowel open vowel open vowel open]"):
            self.assertEqual(self.read(text, text), (("a",), ("a",)))
        self.assertEqual(self.read("[vowel vowel vowel]", "[stop stop]"), (("a", "e"), ("d",)))

    def test_shown_without_brackets(self):
        self.assertEqual(show_rule(read_rule(THREE, "along a>0 / [vowel] _ [open vowel]")), "along a>0 / ae _ a")
        order = read_order(THREE, "left; once a>d / [vowel] _ *; along 0>a / * _ [stop]")
        self.assertEqual(show_order(order), "left; once a>d / ae _ *; along 0>a / * _ d")

    def test_no_sound_has_them(self):
        for text in ("[closed]", "[open stop]", "[vowel stop]", "[vowel closed]", "[a]", "[abcdefgh]"):
            for left, right in ((text, "*"), ("*", text)):
                with self.assertRaises(NoText) as caught:
                    self.read(left, right)
                self.assertEqual(caught.exception.part, 0)

    def test_written_otherwise(self):
        for text in ("[]", "[ ]", "[ vowel]", "[vowel ]", "[vowel  open]", "[vowel", "vowel]", "vowel", "[[vowel]]",
                     "[vowel][open]", "[vowel]a", "a[vowel]", "#[vowel]", "[vowel] #", "[vowel] [open]", "[Vowel]", "[vowel,open]",
                     "[*]", "[#]", "[0]", "[", "]", "[vowel\n]", "[vowels]", "[abcdefghi]", "(vowel)", "[vowel / open]",
                     "[vowel _ open]", "[vowel#", "[vowela", "(vowel]", "avowel]", "#vowel]", "[vowel)"):
            for left, right in ((text, "*"), ("*", text)):
                with self.assertRaises(NoText, msg=text) as caught:
                    self.read(left, right)
                self.assertEqual(caught.exception.part, 0)


class Refused(unittest.TestCase):
    def part(self, number, read, *arguments):
        with self.assertRaises(NoText, msg=arguments) as caught:
            read(*arguments)
        self.assertEqual(caught.exception.part, number, arguments)
        self.assertIs(caught.exception.part is None, number is None)
        self.assertIsInstance(caught.exception, SoundError)

    def test_no_texts(self):
        for thing in NOT_TEXTS:
            self.part(None, read_stock, thing)
            self.part(None, read_rule, THREE, thing)
            self.part(None, read_order, THREE, thing)

    def test_stocks(self):
        for number, text in [
            (0, ""), (0, " "), (0, ","), (0, ", "), (0, "a,b"), (0, "a ,b"), (0, "a , b"), (1, "a,  b"), (1, "a, b "), (0, " a, b"),
            (1, "a, "), (1, "a, , b"), (0, ", a"), (1, "a, b,"), (2, "a, b, "), (0, "a\n"), (0, "a\n, b"), (1, "a, \nb"), (1, "a, b\n"),
            (0, "A"), (1, "a, B"), (0, "ab"), (1, "a, bc"), (0, "0"), (0, "#"), (0, "a; b"), (1, "b, a"), (1, "a, a"), (2, "a, c, b"),
            (2, "a, b, a"), (4, "a, b, c, d, e"), (4, "a, b, c, d, e, f"), (4, "a, b, c, d, "), (0, "a  x"), (0, "a x  y"),
            (0, "a x "), (0, "a y x"), (0, "a x x"), (0, "a b c d e f"), (0, "a v w x y z"), (1, "a, b v w x y z"), (0, "a X"),
            (0, "a abcdefghi"), (1, "a x, b y\n"), (1, "a x, b 1"), (0, "a [x]"), (0, "a x,b y"), (1, "a, b\nx"), (0, "a\tx"),
            (0, "a-b, a"), (1, "b, a, A"), (1, "a, A, a"),
        ]:
            self.part(number, read_stock, text)

    def test_a_stock_of_just_as_much(self):
        self.assertEqual(len(read_stock("a, b, c, d")), 4)
        self.assertEqual(read_stock("a v w x y"), (("a", ("v", "w", "x", "y")),))

    def test_rules(self):
        for text in [
            "", " ", "once", "once a>d", "once a>d /", "once a>d / *", "once a>d / * _", "once a>d / * _ ", "once / * _ *",
            "a>d / * _ *", "Once a>d / * _ *", "twice a>d / * _ *", "once  a>d / * _ *", " once a>d / * _ *", "once a>d / * _ * ",
            "once a>d  / * _ *", "once a>d /  * _ *", "once a>d / *  _ *", "once a>d / * _  *", "once a>d/ * _ *", "once a>d /* _ *",
            "once a>d / *_ *", "once a>d / * _*", "once a>d / *_*", "once a>d\n/ * _ *", "once a>d / * _ *\n", "\nonce a>d / * _ *",
            "once a>d / * _ * x", "once a>d / * _ * _ *", "once a>d / / * _ *", "once a>d / * / * _ *", "once a>d _ * / *",
            "once a>d _ / *", "once a>d / _ *", "once a>d / * _ _ *", "once a>d / a _ ", "once a>d / * _ a b",
            # Changes.
            "once a>a / * _ *", "once 0>0 / * _ *", "once a> / * _ *", "once >a / * _ *", "once > / * _ *", "once a / * _ *",
            "once a>>d / * _ *", "once a>d>e / * _ *", "once a->d / * _ *", "once a>D / * _ *", "once A>d / * _ *", "once a>x / * _ *",
            "once x>a / * _ *", "once a>ad / * _ *", "once ad>a / * _ *", "once a>00 / * _ *", "once #>a / * _ *", "once a># / * _ *",
            "once e>a a>d / * _ *", "once a>d a>e / * _ *", "once a>d a>d / * _ *", "once 0>a 0>d / * _ *", "once 0>a a>d / * _ *",
            "once a>d 0>a / * _ *", "once a>d,e>0 / * _ *", "once a>d, e>0 / * _ *", "once a>d e>0 e>a / * _ *", "once a>* / * _ *",
            "once a>[stop] / * _ *", "once [open]>d / * _ *", "once a > d / * _ *", "once a>d  e>0 / * _ *",
            # Signs.
            "once a>d / ** _ *", "once a>d / 0 _ *", "once a>d / a# _ *", "once a>d / ## _ *", "once a>d / aa _ *", "once a>d / da _ *",
            "once a>d / x _ *", "once a>d / A _ *", "once a>d / a,d _ *", "once a>d / a d _ *", "once a>d / #* _ *", "once a>d / a* _ *",
            "once a>d / * _ a#", "once a>d / * _ ea", "once a>d / * _ aa", "once a>d / * _ x", "once a>d / * _ 0", "once a>d / * _ # a",
            "once a>d / _ _ *", "once a>d / None _ *", "once a>d; / * _ *", "left; once a>d / * _ *", "once a>d / * _ *; once d>a / * _ *",
            "once a>d / * _ *;", "once a>d / () _ *",
        ]:
            self.part(0, read_rule, THREE, text)

    def test_a_rule_of_another_stock(self):
        text = "once a>d / * _ *"
        self.assertEqual(read_rule(THREE, text), rule("once", "a>d"))
        self.part(0, read_rule, TWO, text)
        self.part(1, read_order, TWO, "left; " + text)

    def test_orders(self):
        good, second = "once a>d / * _ *", "along 0>e / [vowel] _ #"
        for number, text in [
            (0, ""), (0, " "), (0, "Left"), (0, "up"), (0, "left "), (0, " left"), (0, "left;"), (1, "left; "), (0, "left\n"), (0, "\nleft"),
            (0, "; left"), (0, good), (0, good + "; " + good), (0, "left " + good), (0, "left;" + good), (0, "left ; " + good),
            (1, "left;  " + good), (1, "left; " + good + " "), (1, "left; " + good + ";"), (2, "left; " + good + "; "),
            (1, "left; ; " + good), (1, "left; " + good + ";" + second), (2, "left; " + good + ";  " + second),
            (1, "left; " + good + " ; " + second), (1, "left; bad; " + good), (2, "left; " + good + "; bad; worse"),
            (0, "up; bad"), (1, "left; right"), (1, "left; left; " + good), (1, "left; " + good + "\n"), (1, "left; " + good + "\n; " + second),
            (2, "left; " + good + "; \n" + second), (0, "left, " + good + "; " + good), (0, "left, " + good),
            (3, "right; " + good + "; " + second + "; once 0>0 / * _ *"), (2, "right; " + good + "; once a>a / * _ *; " + good),
            (4, "right; " + good + "; " + second + "; " + good + "; once e>d a>e / * _ *"),
            (5, "; ".join(["left"] + [good] * 5)), (5, "; ".join(["right"] + [good] * 6)), (5, "; ".join(["left"] + [good] * 4 + ["bad"])),
            (3, "; ".join(["left"] + [good] * 2 + ["bad"] + [good] * 3)), (2, "left; " + good + "; once a>d / [closed] _ *"),
        ]:
            self.part(number, read_order, THREE, text)

    def test_long_texts(self):
        self.part(0, read_stock, "a" * 400)
        self.part(0, read_rule, THREE, "once " + "a>d " * 90 + "/ * _ *")
        self.part(0, read_order, THREE, "left" * 100)
        self.part(5, read_order, THREE, "; ".join(["left"] + ["once a>d / * _ *"] * 20))
        marks = " ".join(["vowel"] * 60)
        self.assertEqual(read_rule(THREE, f"once a>d / [{marks}] _ *"), rule("once", "a>d", "ae"))


if __name__ == "__main__":
    unittest.main()
