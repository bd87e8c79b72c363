import copy
import unittest

from soundrules.rules import fits, is_order, is_rule, turned
from tests.helper import FOUR, ODD_THINGS, ONE, THREE, TWO, many_orders

PLAIN = ("once", (("a", "b"),), None, None)


class Rules(unittest.TestCase):
    def told(self, answer, rules, stock=FOUR):
        for rule in rules:
            self.assertIs(is_rule(stock, rule), answer, repr(rule))

    def test_ordinary(self):
        self.told(True, [
            PLAIN,
            ("along", (("a", "b"), ("b", "a")), ("#", "a"), None),
            ("once", (("a", ""),), ("a",), ("#",)),
            ("along", (("a", ""), ("b", "a"), ("d", "e"), ("e", "d")), ("#", "a", "b", "d", "e"), ("e",)),
            ("once", (("a", "b"), ("b", ""), ("d", "b")), None, ("b", "e")),
            ("once", (("", "a"),), ("#",), ("#",)),
            ("along", (("", "e"),), None, None),
        ])
        self.told(True, [("once", (("a", ""),), None, ("#", "a")), ("along", (("", "a"),), ("a",), None)], ONE)

    def test_ways(self):
        for way in ("Once", "", "twice", "left", "once ", None, 1, True, ("once",), ["once"], {}):
            self.told(False, [(way,) + PLAIN[1:]])

    def test_changes_of_a_wrong_form(self):
        for changes in ((), [("a", "b")], (["a", "b"],), ("a", "b"), (("a",),), (("a", "b", "d"),), "ab", ("ab",), None,
                        True, 1, {"a": "b"}, (None,), (1,), (("a", "b"), None), (("a", "b"), "bd"), ((),)):
            self.told(False, [("once", changes, None, None)])

    def test_wrong_changes(self):
        for changes in ((("a", "a"),), (("a", "b"), ("b", "b")), (("a", "b"), ("a", "d")), (("a", "b"), ("a", "b")),
                        (("b", "a"), ("a", "b")), (("a", "c"),), (("c", "a"),), (("a", "#"),), (("#", "a"),),
                        (("a", "bd"),), (("ab", "d"),), (("a", "A"),), (("a", None),), (("a", True),), (("a", 0),),
                        ((None, "a"),), ((False, "a"),), ((0, "a"),), (("a", ("b",)),), (("a", ["b"]),),
                        ((("a",), "b"),), ((["a"], "b"),), (("a", ()),), (((), "a"),), (("a", {}),)):
            self.told(False, [("once", changes, None, None), ("along", changes, None, None)])

    def test_more_than_four_changes(self):
        changes = (("a", "b"), ("b", "a"), ("d", "a"), ("e", "a"), ("e", "b"))
        self.told(False, [("once", changes, None, None)])

    def test_putting_in(self):
        for changes in ((("", ""),), (("", "c"),), (("", "#"),), (("", "ab"),), (("", None),), (("", True),),
                        (("", "a"), ("", "b")), (("", "a"), ("", "a")), (("", "a"), ("b", "a")),
                        (("b", "a"), ("", "a")), (("", ("a",)),), (("", ["a"]),)):
            self.told(False, [("once", changes, None, None), ("along", changes, None, None)])

    def test_signs_that_fit(self):
        for signs in ((), ("a", "a"), ("#", "#"), ("b", "a"), ("a", "#"), ("c",), ("a", "c"), ("ab",), ("",), ("A",),
                      ("0",), ("*",), ["a"], [], "a", "#", "", {}, {"a": 1}, True, False, 0, 1, (None,), (True,), (1,),
                      (("a",),), (["a"],), ("a", None), ("a", 1), (1, "a")):
            self.told(False, [PLAIN[:2] + (signs, None), PLAIN[:2] + (None, signs)])

    def test_parts_left_out_or_more(self):
        self.told(False, [(), PLAIN[:1], PLAIN[:2], PLAIN[:3], PLAIN[1:], PLAIN + (None,), PLAIN + PLAIN, list(PLAIN),
                          dict(enumerate(PLAIN)), (PLAIN,), "once"])

    def test_another_stock(self):
        self.told(False, [PLAIN], ONE)
        self.told(False, [PLAIN], THREE)
        self.told(False, [("once", (("a", ""),), ("b",), None), ("once", (("a", ""),), None, ("b",))], ONE)
        self.told(True, [PLAIN], TWO)

    def test_things_of_any_kind(self):
        self.told(False, ODD_THINGS)
        for at in range(4):
            # None fits as left and right.
            for thing in [odd for odd in ODD_THINGS if odd is not None and odd != ("a", "b") and odd != ("a",)]:
                self.told(False, [PLAIN[:at] + (thing,) + PLAIN[at + 1:]], TWO if at != 1 else THREE)


class Orders(unittest.TestCase):
    def told(self, answer, orders, stock=TWO):
        for order in orders:
            self.assertIs(is_order(stock, order), answer, repr(order))

    def test_ordinary(self):
        along = ("along", (("", "b"),), ("#",), None)
        self.told(True, [("left", ()), ("right", ()), ("left", (PLAIN,)), ("right", (PLAIN, along)),
                         ("left", (PLAIN, PLAIN, PLAIN)), ("right", (along, PLAIN, along, PLAIN))])

    def test_five_rules(self):
        self.told(False, [("left", (PLAIN,) * 5), ("right", (PLAIN,) * 6)])

    def test_sides(self):
        for side in ("Left", "", "up", "once", "left ", None, True, 0, ("left",), ["left"], {}):
            self.told(False, [(side, ()), (side, (PLAIN,))])

    def test_wrong_form(self):
        self.told(False, [(), ("left",), ("left", (), ()), ["left", ()], ("left", []), ("left", [PLAIN]),
                          ("left", list(PLAIN)), ("left", PLAIN), ("left", None), ("left", ""), ("left", {}),
                          ("left", {PLAIN: 1}), ((), "left"), "left", {"left": ()}, PLAIN])

    def test_wrong_rules(self):
        self.told(False, [("left", (PLAIN, thing)) for thing in ODD_THINGS])
        self.told(False, [("left", (list(PLAIN),)), ("right", (PLAIN, PLAIN[:3])), ("left", ((),))])

    def test_a_rule_of_another_stock(self):
        other = ("once", (("a", "d"),), None, None)
        self.told(False, [("left", (other,)), ("right", (PLAIN, other))])
        self.told(True, [("left", (other,))], THREE)
        self.told(False, [("left", (PLAIN,))], THREE)

    def test_things_of_any_kind(self):
        self.told(False, ODD_THINGS)

    def test_many(self):
        for stock in (ONE, TWO, THREE, FOUR):
            self.told(True, many_orders(stock, 4, 50, 7), stock)


class Fitting(unittest.TestCase):
    def test_none_fits_all(self):
        for sign in ("a", "b", "#"):
            self.assertIs(fits(None, sign), True)

    def test_signs(self):
        self.assertIs(fits(("a",), "a"), True)
        self.assertIs(fits(("a",), "b"), False)
        self.assertIs(fits(("a",), "#"), False)
        self.assertIs(fits(("#",), "#"), True)
        self.assertIs(fits(("#", "a", "e"), "e"), True)
        self.assertIs(fits(("#", "a", "e"), "d"), False)


class Turning(unittest.TestCase):
    def test_left_and_right_exchanged(self):
        self.assertEqual(turned(("once", (("a", "b"),), ("#",), None)), ("once", (("a", "b"),), None, ("#",)))
        self.assertEqual(turned(("along", (("", "b"),), ("a",), ("#", "b"))), ("along", (("", "b"),), ("#", "b"), ("a",)))

    def test_twice_is_the_rule_itself(self):
        for side, rules in many_orders(FOUR, 4, 50, 3):
            for rule in rules:
                self.assertEqual(turned(turned(rule)), rule)
                self.assertIs(is_rule(FOUR, turned(rule)), True)


class NothingIsChanged(unittest.TestCase):
    def test_lists_and_dicts_stay(self):
        for thing in ODD_THINGS:
            before = copy.deepcopy(thing)
            is_rule(THREE, thing), is_order(THREE, thing)
            self.assertEqual(thing, before)


if __name__ == "__main__":
    unittest.main()
