import copy
import unittest

from soundrules.stocks import is_name, is_stock, is_word, sounds_by, sounds_of
from tests.helper import FOUR, ODD_THINGS, ONE, THREE, TWO


class Names(unittest.TestCase):
    def test_names(self):
        for thing in ("a", "z", "vowel", "abcdefgh", "zzzzzzzz", "left"):
            self.assertIs(is_name(thing), True, thing)

    def test_no_names(self):
        wrong = ["", "abcdefghi", "A", "aB", "a1", "1", "a b", " a", "a ", "#", "a#", "_", "a_b", "-", "a\n", "`", "{"]
        for thing in wrong + ODD_THINGS:
            self.assertIs(is_name(thing), False, repr(thing))

    def test_no_text(self):
        for thing in (("a",), ["a"], {"a": 1}, None, True, 1, ()):
            self.assertIs(is_name(thing), False, repr(thing))


class Stocks(unittest.TestCase):
    def test_stocks(self):
        for thing in (ONE, TWO, THREE, FOUR):
            self.assertIs(is_stock(thing), True, thing)

    def test_edges_of_marks(self):
        self.assertIs(is_stock((("z", ("a", "b", "c", "d")),)), True)
        self.assertIs(is_stock((("a", ("abcdefgh",)), ("b", ("a", "abcdefgh")))), True)
        self.assertIs(is_stock((("a", ("b",)), ("b", ("b",)))), True)

    def test_wrong_number_of_sounds(self):
        self.assertIs(is_stock(()), False)
        self.assertIs(is_stock(tuple((sound, ()) for sound in "abcde")), False)

    def test_wrong_sounds(self):
        for sounds in (("a", "a"), ("b", "a"), ("a", "c", "b"), ("ab",), ("",), ("A",), ("1",), ("#",), (" ",), (1,),
                       (True,), (None,), (("a",),), (["a"],), ("a", None), ("a", 1)):
            self.assertIs(is_stock(tuple((sound, ()) for sound in sounds)), False, sounds)

    def test_wrong_marks(self):
        for marks in (["x"], [], "x", "", None, 1, True, {}, {"x": 1}, ("a", "b", "c", "d", "e"), ("x", "x"), ("y", "x"),
                      ("X",), ("",), ("abcdefghi",), ("a", 1), (1, "a"), (None,), (True,), (("a",),), (["a"],)):
            self.assertIs(is_stock((("a", marks),)), False, repr(marks))
            self.assertIs(is_stock((("a", ()), ("b", marks))), False, repr(marks))

    def test_wrong_form(self):
        for thing in ([("a", ())], (["a", ()],), (("a",),), (("a", (), ()),), ("a", ()), "a", {"a": ()}, ("a",),
                      (("a", ()), None), (("a", ()), "b"), (("a", ()), ("b",)), (((),),), (("a", "x"),)):
            self.assertIs(is_stock(thing), False, repr(thing))

    def test_things_of_any_kind(self):
        for thing in ODD_THINGS:
            self.assertIs(is_stock(thing), False, repr(thing))


class Words(unittest.TestCase):
    def test_words(self):
        for thing in ("", "a", "b", "abba", "ab" * 50):
            self.assertIs(is_word(TWO, thing), True, thing)
        self.assertIs(is_word(FOUR, "abde"), True)

    def test_no_words(self):
        for thing in ("A", "aB", "1", "a1", " ", "a ", " a", "#", "a#", "#a#", "c", "ac", "d", "a\n", "0"):
            self.assertIs(is_word(TWO, thing), False, repr(thing))
        self.assertIs(is_word(ONE, "b"), False)

    def test_things_of_any_kind(self):
        for thing in ODD_THINGS + [(), ("a", "b"), ["a"], {"a": "b"}, {}, [], None, True, 0]:
            self.assertIs(is_word(TWO, thing), False, repr(thing))


class Sounds(unittest.TestCase):
    def test_all(self):
        self.assertEqual(sounds_of(ONE), ("a",))
        self.assertEqual(sounds_of(THREE), ("a", "d", "e"))
        self.assertIsInstance(sounds_of(THREE), tuple)

    def test_by_marks(self):
        self.assertEqual(sounds_by(THREE, ("vowel",)), ("a", "e"))
        self.assertEqual(sounds_by(THREE, ("stop",)), ("d",))
        self.assertEqual(sounds_by(THREE, ("open", "vowel")), ("a",))
        self.assertEqual(sounds_by(THREE, ("vowel", "open")), ("a",))

    def test_by_no_marks_all(self):
        self.assertEqual(sounds_by(THREE, ()), ("a", "d", "e"))
        self.assertEqual(sounds_by(FOUR, ()), ("a", "b", "d", "e"))

    def test_by_marks_that_none_has(self):
        self.assertEqual(sounds_by(THREE, ("nasal",)), ())
        self.assertEqual(sounds_by(THREE, ("stop", "vowel")), ())
        self.assertEqual(sounds_by(THREE, ("vow",)), ())
        self.assertEqual(sounds_by(FOUR, ("vowel",)), ())
        self.assertIsInstance(sounds_by(THREE, ("nasal",)), tuple)


class NothingIsChanged(unittest.TestCase):
    def test_lists_and_dicts_stay(self):
        for thing in ODD_THINGS:
            before = copy.deepcopy(thing)
            is_name(thing), is_stock(thing), is_word(THREE, thing)
            self.assertEqual(thing, before)


if __name__ == "__main__":
    unittest.main()
