import unittest
from itertools import product

from soundrules.errors import TooMany
from soundrules.machines import least_machine, run
from soundrules.rules import is_order
from tests.helper import (FOUR, JUST_600, ONE, OVER_600, THREE, TWO, Dice, all_words, many_orders, naive_made, rule,
                          thrown_word)


def one_rule_each(stock):
    """All orders of one rule with one change, of both sides."""
    sounds = [sound for sound, marks in stock]
    pairs = [(old, new) for old in sounds + [""] for new in sounds + [""] if old != new]
    signs = [None, ("#",), ("a",), ("#", "a")]
    return [(side, ((way, (pair,), left, right),))
            for side, way, pair, left, right in product(("left", "right"), ("once", "along"), pairs, signs, signs)]


class Running(unittest.TestCase):
    # No least machine: state 2 is never come to.
    MACHINE = ("b", (("a", (("", 1), ("ab", 0))), ("", (("b", 0), ("", 1))), ("aa", (("a", 2), ("a", 0)))))

    def test_from_the_left(self):
        for word, form in {"": "ba", "a": "b", "ab": "b", "b": "baba", "aab": "bbaba", "bba": "babab"}.items():
            self.assertEqual(run(TWO, self.MACHINE, "left", word), form, word)

    def test_from_the_right(self):
        for word, form in {"": "ab", "a": "b", "ba": "b", "b": "abab", "baa": "ababb", "abb": "babab"}.items():
            self.assertEqual(run(TWO, self.MACHINE, "right", word), form, word)

    def test_one_state(self):
        machine = ("", (("", (("b", 0), ("", 0), ("da", 0), ("e", 0))),))
        self.assertEqual(run(FOUR, machine, "left", "abde"), "bdae")
        self.assertEqual(run(FOUR, machine, "right", "abde"), "bade")
        self.assertEqual(run(FOUR, machine, "left", "d" * 100), "da" * 100)

    def test_not_the_least(self):
        least = least_machine(TWO, ("left", (rule("once", "a>b", None, "#"),)))
        # The same with its second state twice.
        wider = ("", (("", (("", 2), ("b", 0))), ("b", (("a", 2), ("ab", 0))), ("b", (("a", 1), ("ab", 0)))))
        for word in all_words(TWO, 6):
            for side in ("left", "right"):
                self.assertEqual(run(TWO, wider, side, word), run(TWO, least, side, word))


class KnownMachines(unittest.TestCase):
    def told(self, stock, order, machine):
        self.assertTrue(is_order(stock, order))
        self.assertEqual(least_machine(stock, order), machine)

    def test_no_rules(self):
        for side in ("left", "right"):
            self.told(ONE, (side, ()), ("", (("", (("a", 0),)),)))
            self.told(THREE, (side, ()), ("", (("", (("a", 0), ("d", 0), ("e", 0))),)))

    def test_one_state(self):
        self.told(TWO, ("left", (rule("once", "a>b"),)), ("", (("", (("b", 0), ("b", 0))),)))
        self.told(ONE, ("right", (rule("along", "a>"),)), ("", (("", (("", 0),)),)))

    def test_a_sound_held_back(self):
        machine = ("", (("", (("", 1), ("b", 0))), ("b", (("a", 1), ("ab", 0)))))
        self.told(TWO, ("left", (rule("once", "a>b", None, "#"),)), machine)
        self.told(TWO, ("right", (rule("once", "a>b", "#"),)), machine)

    def test_nothing_held_back_in_vain(self):
        self.told(TWO, ("left", (rule("along", "a>b", "a"),)),
                  ("", (("", (("a", 1), ("b", 0))), ("", (("b", 0), ("b", 0))))))
        self.told(TWO, ("left", (rule("once", "a>b", "#"),)),
                  ("", (("", (("b", 1), ("b", 1))), ("", (("a", 1), ("b", 1))))))

    def test_what_is_put_out_first(self):
        same = (("", (("a", 0), ("b", 0))),)
        self.told(TWO, ("left", (rule("once", ">a", "#"),)), ("a", same))
        self.told(TWO, ("right", (rule("along", ">b", None, "#"),) * 2), ("bb", same))
        # Put in everywhere: one ahead of all, then one behind each sound.
        self.told(TWO, ("left", (rule("once", ">b"),)), ("b", (("", (("ab", 0), ("bb", 0))),)))

    def test_at_the_end(self):
        self.told(TWO, ("left", (rule("once", ">a", "#", "#"),)),
                  ("", (("a", (("a", 1), ("b", 1))), ("", (("a", 1), ("b", 1))))))
        self.told(TWO, ("left", (rule("once", ">a", None, "#"),)), ("", (("a", (("a", 0), ("b", 0))),)))

    def test_orders_that_do_the_same(self):
        gone = rule("once", "a>")
        self.assertEqual(least_machine(TWO, ("left", (gone,))), least_machine(TWO, ("left", (gone, gone))))
        self.assertEqual(least_machine(TWO, ("left", (gone, rule("along", "a>b", "b")))),
                         least_machine(TWO, ("left", (gone,))))
        self.assertEqual(least_machine(TWO, ("left", (rule("once", ">a", "#"), rule("once", "a>", "#")))),
                         least_machine(TWO, ("left", ())))
        for side, rules in many_orders(FOUR, 1, 60, 31):
            for way, changes, left, right in rules:
                if changes[0][0] == "":
                    self.assertEqual(least_machine(FOUR, (side, (("once", changes, left, right),))),
                                     least_machine(FOUR, (side, (("along", changes, left, right),))))


class LeastMachines(unittest.TestCase):
    def check(self, stock, order, most):
        machine = least_machine(stock, order)
        self.check_form(stock, machine)
        for word in all_words(stock, most):
            self.assertEqual(run(stock, machine, order[0], word), naive_made(order, word), (order, word))
        self.check_numbers(machine)
        self.check_early(machine, order)
        self.check_unlike(machine, order)
        self.assertEqual(least_machine(stock, order), machine)

    def check_form(self, stock, machine):
        first, states = machine
        sounds = {sound for sound, marks in stock}
        self.assertIs(type(machine), tuple)
        self.assertIs(type(states), tuple)
        self.assertGreaterEqual(sounds, set(first))
        for end, steps in states:
            self.assertGreaterEqual(sounds, set(end))
            self.assertIs(type(steps), tuple)
            self.assertEqual(len(steps), len(stock))
            for put, number in steps:
                self.assertGreaterEqual(sounds, set(put))
                self.assertIn(number, range(len(states)))

    def check_numbers(self, machine):
        """Each state is come to, and numbered as it is first come to."""
        come_to = [0]
        for at in range(len(machine[1])):
            self.assertLess(at, len(come_to))
            for put, number in machine[1][at][1]:
                if number not in come_to:
                    come_to.append(number)
        self.assertEqual(come_to, list(range(len(machine[1]))))

    def check_early(self, machine, order):
        """For no state does all that it makes begin with the same sound ("" where nothing is made)."""
        begin = [{end[:1]} for end, steps in machine[1]]
        grown = True
        while grown:
            grown = False
            for at, (end, steps) in enumerate(machine[1]):
                more = set().union(*[{put[:1]} if put else begin[number] for put, number in steps])
                grown = grown or not more <= begin[at]
                begin[at] |= more
        for each in begin:
            self.assertTrue("" in each or len(each) > 1, (order, machine))

    def check_unlike(self, machine, order):
        """No two states make the same of all; as all is put out early, unlike steps or ends somewhere show it."""
        states = machine[1]
        unlike = {(one, other) for one in range(len(states)) for other in range(len(states))
                  if states[one][0] != states[other][0]
                  or [put for put, number in states[one][1]] != [put for put, number in states[other][1]]}
        grown = True
        while grown:
            more = {(one, other) for one in range(len(states)) for other in range(len(states))
                    for step, second in zip(states[one][1], states[other][1]) if (step[1], second[1]) in unlike}
            grown = not more <= unlike
            unlike |= more
        for one in range(len(states)):
            for other in range(one):
                self.assertIn((one, other), unlike, (order, machine))

    def test_all_of_one_rule(self):
        for order in one_rule_each(ONE):
            self.check(ONE, order, 5)
        for order in one_rule_each(TWO):
            self.check(TWO, order, 4)

    def test_all_of_two_rules_of_one_sound(self):
        orders = one_rule_each(ONE)
        for side, rules in orders[::3]:
            for second, others in orders[::5]:
                self.check(ONE, (side, rules + others), 5)

    def test_many(self):
        for stock, most, seed in ((ONE, 6, 41), (TWO, 5, 42), (THREE, 4, 43)):
            for order in many_orders(stock, 4, 60, seed):
                self.check(stock, order, most)

    def test_many_of_four_sounds(self):
        for order in many_orders(FOUR, 3, 60, 44):
            self.check(FOUR, order, 3)

    def test_long_words(self):
        dice = Dice(6)
        for order in many_orders(FOUR, 3, 60, 45):
            machine = least_machine(FOUR, order)
            for many in (60, 100):
                word = thrown_word(dice, FOUR, many)
                self.assertEqual(run(FOUR, machine, order[0], word), naive_made(order, word), order)

    def test_just_600_standings(self):
        for order in JUST_600:
            self.check(FOUR, order, 4)

    def test_more_than_600_standings(self):
        for order in OVER_600:
            for turn in range(2):
                with self.assertRaises(TooMany):
                    least_machine(FOUR, order)


if __name__ == "__main__":
    unittest.main()
