"""[19]: claims that are so and those that are not, with right papers and with spoilt ones."""

import unittest
from itertools import combinations, product

from soundrules.checker import holds
from soundrules.machines import least_machine
from tests.helper import (
    FOUR, JUST_600, ONE, OVER_600, THREE, TWO, Dice, all_words, many_orders, naive_acting, naive_cascade,
    naive_common_rows, naive_first, naive_form_rows, naive_machine, naive_made, naive_quarrel_paper, naive_standings,
    naive_table, naive_table_papers, naive_two_rows, naive_walk, naive_word_papers, rest_of, rule, step_by)

KINDS = {"makes", "machine", "alike", "parted", "no source", "endless", "no common", "acts", "never", "makes way", "takes",
         "no way", "no taking", "quarrel"}

# Rules of the stock TWO: b at the end becomes a; an a behind another one falls; b's are put in; one that never acts
# behind FALL, since behind it no a stands behind an a.
FINAL = rule("once", "b>a", None, "#")
FALL = rule("along", "a>", "a", None)
PUT = rule("once", ">b", "a", "#")
IDLE = rule("once", "a>b", "a", None)
SWAP = rule("once", "a>b b>a")


def order_pairs(stock, most_rules, many, seed):
    """Pairs of drawn orders of one side."""
    orders = many_orders(stock, most_rules, many, seed)
    for side in ("left", "right"):
        own = [order for order in orders if order[0] == side]
        yield from zip(own, own[1:] + own[:1])


def alike_paper(stock, one, other):
    machine = least_machine(stock, one)
    return (machine, naive_table(stock, one, machine), naive_table(stock, other, machine))


class TrueClaims(unittest.TestCase):
    def takes(self, told):
        for claim, paper in told:
            self.assertIs(holds(claim, paper), True, (claim, paper))

    def test_all_kinds_with_right_papers_of_both_sides(self):
        seen = set()
        for stock, most, words in ((ONE, 2, ["", "a", "aa"]), (TWO, 2, ["", "b", "ab", "aab"]), (THREE, 3, ["d", "ade"])):
            for one, other in order_pairs(stock, most, 10, 121):
                told = naive_word_papers(stock, one, other, all_words(stock, 3))
                told += naive_table_papers(stock, one, other, words)
                self.takes(told)
                seen |= {(claim[0], one[0]) for claim, paper in told}
        self.assertEqual(seen, {(kind, side) for kind in KINDS - {"alike"} for side in ("left", "right")})

    def test_alike(self):
        for side in ("left", "right"):
            twice = [((side, (FALL,)), (side, (FALL, FALL))), ((side, ()), (side, (SWAP, SWAP))),
                     ((side, (FALL,)), (side, (FALL, IDLE) if side == "left" else (FALL,))),
                     ((side, ()), (side, ())), ((side, (PUT,)), (side, (PUT,)))]
            for one, other in twice:
                paper = alike_paper(TWO, one, other)
                self.assertIs(holds(("alike", TWO, one, other), paper), True)
                # The machine need not be the least.
                machine = naive_machine(TWO, one)
                paper = (machine, naive_table(TWO, one, machine), naive_table(TWO, other, machine))
                self.assertIs(holds(("alike", TWO, one, other), paper), True)

    def test_least_machines(self):
        for stock in (ONE, TWO, THREE, FOUR):
            for order in many_orders(stock, 4 if stock != FOUR else 2, 20, 122):
                machine = least_machine(stock, order)
                self.assertIs(holds(("machine", stock, order, machine), naive_table(stock, order, machine)), True)

    def test_words_that_are_not_the_shortest(self):
        order = ("left", (FINAL,))
        for word in ("b", "ab", "bab", "b" * 100):
            self.assertIs(holds(("acts", TWO, order, 0, word), None), True)
            self.assertIs(holds(("parted", TWO, order, ("left", ()), word), None), True)
            self.assertIs(holds(("takes", TWO, "left", FINAL, FINAL, word), None), True)
        for word in ("aba", "baba"):
            self.assertIs(holds(("makes way", TWO, "left", rule("once", "a>", None, "#"), FINAL, word), None), True)

    def test_orders_of_just_600_standings_and_of_more(self):
        for order in JUST_600 + OVER_600[:2]:
            machine = naive_machine(FOUR, order)
            self.assertGreaterEqual(len(machine[1]), 600)
            table = naive_table(FOUR, order, machine)
            self.assertIs(holds(("machine", FOUR, order, machine), table), True)
            self.assertIs(holds(("machine", FOUR, order, machine), table[:300] + table[301:]), False)
            self.assertIs(holds(("alike", FOUR, order, order), (machine, table, table)), True)
            word = "abde" * 25
            self.assertIs(holds(("makes", FOUR, order, word, naive_made(order, word)), naive_walk(order, word)), True)

    def test_a_word_of_100_sounds_that_becomes_longer(self):
        order = ("right", (rule("once", ">b", "a"), rule("once", ">a"), rule("along", ">b")))
        walk = naive_walk(order, "ab" * 50)
        self.assertGreater(len(walk[-1]), 500)
        self.assertIs(holds(("makes", TWO, order, "ab" * 50, walk[-1]), walk), True)


class Others(unittest.TestCase):
    """Rows to which no reading leads."""

    def every(self, claim, right, universe, well):
        """With one row more it is taken just where all holds of that row, too."""
        seen = set()
        for row in universe:
            if row not in right:
                more = tuple(sorted(right + (row,)))
                expected = well(row, more)
                self.assertIs(holds(claim, more), expected, (claim, row))
                seen.add(expected)
        return seen

    def standings(self, stock, many):
        own = list(product((False, True), [""] + [sound for sound, marks in stock]))
        return list(product(own, repeat=many))

    def test_tables(self):
        for side, rules in product(("left", "right"), ((FINAL,), (FALL,), (PUT, SWAP))):
            order = (side, rules)
            machine = least_machine(TWO, order)
            # A state to which nothing leads, beside those of the order.
            machine = (machine[0], machine[1] + (("", (("a", 0), ("b", 0))), machine[1][0]))
            right = naive_table(TWO, order, machine)

            def well(row, rows):
                standing, number, more, less = row
                if more and less:
                    return False
                if more + naive_cascade(order, standing, "", True)[1] != less + machine[1][number][0]:
                    return False
                for sound in "ab":
                    behind, put = naive_cascade(order, standing, sound, False)
                    own, to = step_by(TWO, machine, number, sound)
                    if (behind, to) + rest_of(more + put, less + own) not in rows:
                        return False
                return True

            texts = [("", ""), ("a", ""), ("", "a"), ("b", ""), ("", "b"), ("bb", ""), ("", "ba"), ("a", "a"),
                     ("b", "b"), ("ab", "a")]
            universe = [(standing, number) + text for standing in self.standings(TWO, len(rules))
                        for number in range(len(machine[1])) for text in texts]
            seen = self.every(("machine", TWO, order, machine), right, universe, well)
            self.assertEqual(seen, {False, True})

    def test_never(self):
        order = ("left", (FALL, IDLE))
        right = tuple(sorted(naive_standings(TWO, order)))

        def well(row, rows):
            if any(naive_acting(order, row, sound, sound == "")[1] for sound in ("a", "b", "")):
                return False
            return all(naive_cascade(order, row, sound, False)[0] in rows for sound in "ab")

        claim = ("never", TWO, order, 1)
        self.assertEqual(self.every(claim, right, self.standings(TWO, 2), well), {False, True})
        # All would hold of these, too, but a rule holds one sound at the most.
        others = [(own, other) for own, other in product(product((False, True), ("aa", "ab", "bb")), repeat=2)
                  if well((own, other), right)]
        self.assertNotEqual(others, [])
        self.assertEqual(self.every(claim, right, others, lambda row, rows: False), {False})

    def test_two_rules(self):
        for name, barred in (("no way", (True, False)), ("no taking", (False, True))):
            for side in ("left", "right"):
                pair = (FALL, FALL) if name == "no way" else (PUT, FALL)
                both, itself = (side, pair), (side, (FALL,))
                right, ends = naive_two_rows(TWO, side, *pair)
                self.assertNotIn(barred, ends)

                def well(row, rows):
                    standing, own, behind, alone = row
                    if (behind or naive_acting(both, standing, "", True)[1],
                            alone or naive_acting(itself, own, "", True)[0]) == barred:
                        return False
                    return all((naive_cascade(both, standing, sound, False)[0],
                                naive_cascade(itself, own, sound, False)[0],
                                behind or naive_acting(both, standing, sound, False)[1],
                                alone or naive_acting(itself, own, sound, False)[0]) in rows for sound in "ab")

                universe = product(self.standings(TWO, 2), self.standings(TWO, 1), (False, True), (False, True))
                claim = (name, TWO, side) + pair
                self.assertEqual(self.every(claim, right, universe, well), {False, True})

    def test_rows_of_no_source(self):
        order = ("left", (FINAL,))
        machine = least_machine(TWO, order)
        table = naive_table(TWO, order, machine)
        right, ended = naive_form_rows(TWO, "left", machine, "abb")
        self.assertFalse(ended)
        claim = ("no source", TWO, order, "abb")
        self.assertIs(holds(claim, (machine, table, right)), True)
        for number, many in product(range(len(machine[1])), range(4)):
            others = {(number, many)}
            # All rows that are asked for because of this one.
            for turn in range(8):
                for state, out in list(others):
                    for put, to in machine[1][state][1]:
                        if "abb"[out:].startswith(put):
                            others.add((to, out + len(put)))
            rows = tuple(sorted(set(right) | others))
            ended = any("abb"[out:] == machine[1][state][0] for state, out in rows)
            self.assertIs(holds(claim, (machine, table, rows)), not ended, rows)
        # There are no four sounds of the form that could be put out.
        self.assertIs(holds(claim, (machine, table, right + ((len(machine[1]) - 1, 4),))), False)
        self.assertIs(holds(claim, (machine, table, ((0, -1),) + right)), False)

    def test_first_is_no_beginning(self):
        order = ("left", (rule("once", ">a", "#", None),))
        machine = least_machine(TWO, order)
        self.assertEqual(machine[0], "a")
        table = naive_table(TWO, order, machine)
        for form in ("", "b", "ba"):
            claim = ("no source", TWO, order, form)
            self.assertIs(holds(claim, (machine, table, ())), True)
            # No reading leads to this row, but with it a word would end with the form.
            self.assertIs(holds(claim, (machine, table, ((0, len(form)),))), False)
        self.assertIs(holds(("no source", TWO, order, "a"), (machine, table, ())), False)
        claim = ("no common", TWO, order, ("left", ()), "b", "b")
        plain = least_machine(TWO, ("left", ()))
        plain_table = naive_table(TWO, ("left", ()), plain)
        self.assertIs(holds(claim, (machine, table, plain, plain_table, ())), True)
        claim = ("no common", TWO, ("left", ()), order, "b", "b")
        self.assertIs(holds(claim, (plain, plain_table, machine, table, ())), True)
        claim = ("no common", TWO, ("left", ()), order, "b", "ab")
        self.assertIs(holds(claim, (plain, plain_table, machine, table, ())), False)


class AllSubsets(unittest.TestCase):
    """Of few rows every choice: taken are just those that hold, and none for what is not so."""

    def choices(self, universe):
        for many in range(len(universe) + 1):
            yield from combinations(sorted(universe), many)

    def test_tables_of_one_sound(self):
        seen = []
        for side, one in product(("left", "right"), (rule("once", "a>", "#"), rule("along", "a>", "a"), rule("once", ">a", "#"))):
            order = (side, (one,))
            for machine in (least_machine(ONE, order), ("", (("", (("a", 0),)),)), ("a", (("", (("a", 0),)),)),
                            ("", (("", (("", 0),)),))):
                texts = [("", ""), ("a", ""), ("", "a")]
                many = len(machine[1])
                universe = [((own,), number) + text for own in product((False, True), ("", "a"))
                            for number in range(min(many, 1)) for text in texts]
                is_so = all(naive_made(order, "a" * n) == self.by(machine, n) for n in range(8))
                for rows in self.choices(universe):
                    taken = holds(("machine", ONE, order, machine), rows)
                    self.assertIs(taken, self.held(order, machine, rows), (order, machine, rows))
                    if taken:
                        self.assertTrue(is_so)
                        seen.append(rows)
        self.assertGreater(len(seen), 2)

    def by(self, machine, many):
        out, state = machine[0], 0
        for turn in range(many):
            put, state = machine[1][state][1][0]
            out = out + put
        return out + machine[1][state][0]

    def held(self, order, machine, rows):
        if (naive_first(order), 0, "", machine[0]) not in rows:
            return False
        for standing, number, more, less in rows:
            behind, put = naive_cascade(order, standing, "a", False)
            own, to = machine[1][number][1][0]
            if (behind, to) + rest_of(more + put, less + own) not in rows:
                return False
            if more + naive_cascade(order, standing, "", True)[1] != less + machine[1][number][0]:
                return False
        return True

    def test_never_of_one_sound(self):
        universe = [(own,) for own in product((False, True), ("", "a"))]
        taken_of = {}
        for side, way, left, right in product(("left", "right"), ("once", "along"), (None, "#", "a", "#a"), (None, "#", "a")):
            for changes in ("a>", ">a"):
                order = (side, (rule(way, changes, left, right),))
                acts = any(naive_made(order, "a" * n) != "a" * n for n in range(6))
                for rows in self.choices(universe):
                    taken = holds(("never", ONE, order, 0), rows)
                    closed = naive_first(order) in rows and all(
                        naive_cascade(order, row, "a", False)[0] in rows and not naive_acting(order, row, "a", False)[0]
                        and not naive_acting(order, row, "", True)[0] for row in rows)
                    self.assertIs(taken, closed)
                    self.assertFalse(taken and acts)
                    taken_of[order] = taken_of.get(order, False) or taken
                # What is so can be shown.
                self.assertNotEqual(taken_of[order], acts)


class FalseClaims(unittest.TestCase):
    def bars(self, claim, paper):
        self.assertIs(holds(claim, paper), False, (claim, paper))

    def test_makes(self):
        for one, other in order_pairs(TWO, 2, 12, 123):
            for word in all_words(TWO, 3):
                walk = naive_walk(one, word)
                for form in ("", "a", "ab", "abab"):
                    if form != walk[-1]:
                        self.bars(("makes", TWO, one, word, form), walk)
                        self.bars(("makes", TWO, one, word, form), walk[:-1] + (form,))
                claim = ("makes", TWO, one, word, walk[-1])
                for at in range(len(walk)):
                    self.bars(claim, walk[:at] + walk[at + 1:])
                    self.bars(claim, walk[:at] + (walk[at],) + walk[at:])
                    self.bars(claim, walk[:at] + (walk[at] + "a",) + walk[at + 1:])
                self.bars(claim, None)
                self.bars(claim, list(walk))

    def test_machine(self):
        for one, other in order_pairs(TWO, 2, 16, 124):
            machine, second = least_machine(TWO, one), least_machine(TWO, other)
            table = naive_table(TWO, one, machine)
            if machine != second:
                self.bars(("machine", TWO, other, machine), table)
                self.bars(("machine", TWO, one, second), table)
                self.bars(("alike", TWO, one, other), (machine, table, naive_table(TWO, other, second)))
                self.bars(("alike", TWO, one, other), (machine, table, table))
                self.bars(("alike", TWO, other, one), (machine, table, table))

    def test_machine_changed_in_one_part(self):
        order = ("right", (FINAL, FALL))
        first, states = least_machine(TWO, order)
        table = naive_table(TWO, order, (first, states))
        claim = ("machine", TWO, order, (first, states))
        self.assertIs(holds(claim, table), True)
        self.bars(("machine", TWO, order, (first + "a", states)), table)
        for at, (end, steps) in enumerate(states):
            changed = [("b" + end, steps)]
            changed += [(end, steps[:k] + ((put + "a", to),) + steps[k + 1:]) for k, (put, to) in enumerate(steps)]
            changed += [(end, steps[:k] + ((put, (to + 1) % len(states)),) + steps[k + 1:])
                        for k, (put, to) in enumerate(steps)]
            for state in changed:
                self.bars(("machine", TWO, order, (first, states[:at] + (state,) + states[at + 1:])), table)

    def test_parted(self):
        for one, other in order_pairs(TWO, 2, 16, 125):
            for word in all_words(TWO, 3):
                parts = naive_made(one, word) != naive_made(other, word)
                self.assertIs(holds(("parted", TWO, one, other, word), None), parts)
                self.bars(("parted", TWO, one, other, word), ())
                self.bars(("parted", TWO, one, other, word), naive_walk(one, word))

    def test_no_source(self):
        for one, other in order_pairs(TWO, 2, 16, 126):
            machine = least_machine(TWO, one)
            table = naive_table(TWO, one, machine)
            for word in all_words(TWO, 3):
                form = naive_made(one, word)
                rows, ended = naive_form_rows(TWO, one[0], machine, form)
                self.assertTrue(ended)
                claim = ("no source", TWO, one, form)
                self.bars(claim, (machine, table, rows))
                goal = form[::-1] if one[0] == "right" else form
                self.bars(claim, (machine, table, tuple(row for row in rows if goal[row[1]:] != machine[1][row[0]][0])))
                self.bars(claim, (machine, table, ()))
                self.bars(claim, (machine, table))
                self.bars(claim, (machine, (), ()))

    def test_no_source_by_the_machine_of_another_order(self):
        one, plain = ("left", (FINAL,)), ("left", ())
        machine = least_machine(TWO, one)
        table = naive_table(TWO, one, machine)
        rows, ended = naive_form_rows(TWO, "left", machine, "b")
        self.assertIs(holds(("no source", TWO, one, "b"), (machine, table, rows)), True)
        self.bars(("no source", TWO, plain, "b"), (machine, table, rows))
        other = least_machine(TWO, plain)
        self.bars(("no source", TWO, plain, "b"), (machine, naive_table(TWO, plain, other), rows))

    def test_no_common(self):
        for one, other in order_pairs(TWO, 1, 10, 127):
            machines = least_machine(TWO, one), least_machine(TWO, other)
            tables = naive_table(TWO, one, machines[0]), naive_table(TWO, other, machines[1])
            for word in all_words(TWO, 2):
                forms = naive_made(one, word), naive_made(other, word)
                right, ended = naive_common_rows(TWO, one[0], machines, forms)
                self.assertTrue(ended)
                claim = ("no common", TWO, one, other) + forms
                self.bars(claim, (machines[0], tables[0], machines[1], tables[1], right))
                goals = [form[::-1] if one[0] == "right" else form for form in forms]
                rows = tuple(row for row in right
                             if [goals[0][row[2]:], goals[1][row[3]:]] != [machines[0][1][row[0]][0], machines[1][1][row[1]][0]])
                self.bars(claim, (machines[0], tables[0], machines[1], tables[1], rows))
                self.bars(claim, (machines[0], tables[0], machines[1], tables[1], ()))

    def test_no_common_with_wrong_tables(self):
        one, other = ("right", (FINAL,)), ("right", (SWAP,))
        machines = least_machine(TWO, one), least_machine(TWO, other)
        tables = naive_table(TWO, one, machines[0]), naive_table(TWO, other, machines[1])
        rows, ended = naive_common_rows(TWO, "right", machines, ("a", "bb"))
        self.assertFalse(ended)
        claim = ("no common", TWO, one, other, "a", "bb")
        paper = (machines[0], tables[0], machines[1], tables[1], rows)
        self.assertIs(holds(claim, paper), True)
        for at in range(5):
            self.bars(claim, paper[:at] + paper[at + 1:])
            self.bars(claim, paper + (paper[at],))
            for part in (None, (), paper[(at + 2) % 4], list(paper[at])):
                if part != paper[at]:
                    self.bars(claim, paper[:at] + (part,) + paper[at + 1:])
        self.bars(("no common", TWO, other, one, "a", "bb"), paper)

    def test_acts_and_never(self):
        for one, other in order_pairs(TWO, 3, 20, 128):
            found = tuple(sorted(naive_standings(TWO, one)))
            for number in range(len(one[1])):
                walks = [naive_walk(one, word) for word in all_words(TWO, 4)]
                for walk in walks:
                    self.assertIs(holds(("acts", TWO, one, number, walk[0]), None), walk[number] != walk[number + 1])
                    self.bars(("acts", TWO, one, number, walk[0]), found)
                if any(walk[number] != walk[number + 1] for walk in walks):
                    quiet = tuple(row for row in found
                                  if not any(naive_acting(one, row, sound, sound == "")[number] for sound in ("a", "b", "")))
                    self.bars(("never", TWO, one, number), found)
                    self.bars(("never", TWO, one, number), quiet)
                    self.bars(("never", TWO, one, number), ())
                    self.bars(("never", TWO, one, number), None)

    def test_two_rules(self):
        for one, other in order_pairs(TWO, 1, 40, 129):
            if one[1] == () or other[1] == ():
                continue
            side, (first,), (last,) = one[0], one[1], other[1]
            right, ends = naive_two_rows(TWO, side, first, last)
            for name, no_name, barred in (("makes way", "no way", (True, False)), ("takes", "no taking", (False, True))):
                for word in all_words(TWO, 4):
                    between = naive_made(one, word)
                    ended = (naive_made(other, between) != between, naive_made(other, word) != word)
                    self.assertIs(holds((name, TWO, side, first, last, word), None), ended == barred)
                    self.bars((name, TWO, side, first, last, word), right)
                self.assertIs(holds((no_name, TWO, side, first, last), right), barred not in ends)
                self.bars((no_name, TWO, side, first, last), None)
                if barred in ends:
                    quiet = tuple(row for row in right if row[2:] != barred)
                    self.bars((no_name, TWO, side, first, last), quiet)

    def test_quarrel(self):
        dice = Dice(130)
        words = all_words(TWO, 2)
        for one, other in order_pairs(TWO, 3, 30, 131):
            book = tuple((dice.one_of(words), dice.one_of(words)) for at in range(1 + dice.below(6)))
            paper = naive_quarrel_paper(one, book)
            claim = ("quarrel", TWO, one, book)
            many = {0: 1, 1: 1, 2: 2, 3: 6}[len(one[1])]
            if paper is None:
                for number in range(len(book)):
                    self.bars(claim, (number,) * many)
                continue
            self.assertIs(holds(claim, paper), True)
            self.bars(claim, paper[1:])
            self.bars(claim, paper + (paper[-1],))
            self.bars(claim, None)
            for at in range(many):
                for number in (-1, len(book), 10 ** 30, None, "0", True, False, (0,)):
                    self.bars(claim, paper[:at] + (number,) + paper[at + 1:])

    def test_quarrel_with_a_pair_that_is_told(self):
        # Laid as they are, b becomes a, then b; the other way about it becomes a, which becomes b only here.
        order = ("left", (FINAL, rule("once", "a>b", "#", "#")))
        self.assertEqual([naive_made(order, "b"), naive_made(("left", order[1][::-1]), "b")], ["b", "a"])
        book = (("b", "a"), ("b", "b"))
        self.assertIs(holds(("quarrel", TWO, order, book), (0, 1)), True)
        self.bars(("quarrel", TWO, order, book), (1, 0))
        self.bars(("quarrel", TWO, order, book), (0, 0))
        self.bars(("quarrel", TWO, order, book), (1, 1))

    def test_quarrel_of_an_order_without_rules(self):
        for side in ("left", "right"):
            claim = ("quarrel", TWO, (side, ()), (("a", "a"), ("a", "b")))
            self.assertIs(holds(claim, (1,)), True)
            self.bars(claim, (0,))
            self.bars(claim, ())
            self.bars(claim, (1, 1))


class Endless(unittest.TestCase):
    def paper(self, order):
        machine = least_machine(TWO, order)
        return machine, naive_table(TWO, order, machine)

    def test_left(self):
        order = ("left", (FALL,))
        paper = self.paper(order)
        self.assertIs(holds(("endless", TWO, order, "ab", "a", "a", "b"), paper), True)
        self.assertIs(holds(("endless", TWO, order, "ab", "aa", "aaa", "b"), paper), True)
        self.assertIs(holds(("endless", TWO, order, "ba", "ba", "a", ""), paper), True)
        # Without sounds, or putting something out, or not back, or of another form.
        self.assertIs(holds(("endless", TWO, order, "ab", "a", "", "b"), paper), False)
        self.assertIs(holds(("endless", TWO, order, "ab", "a", "b", "b"), paper), False)
        self.assertIs(holds(("endless", TWO, order, "ab", "a", "ba", "b"), paper), False)
        self.assertIs(holds(("endless", TWO, order, "ab", "", "a", "ab"), paper), False)
        self.assertIs(holds(("endless", TWO, order, "abb", "a", "a", "b"), paper), False)
        self.assertIs(holds(("endless", TWO, order, "", "a", "a", "b"), paper), False)

    def test_right_reads_behind_first(self):
        order = ("right", (rule("along", "a>", None, "a"),))
        paper = self.paper(order)
        self.assertIs(holds(("endless", TWO, order, "ba", "b", "a", "a"), paper), True)
        self.assertIs(holds(("endless", TWO, order, "ab", "", "a", "ab"), paper), True)
        self.assertIs(holds(("endless", TWO, order, "ba", "ba", "a", ""), paper), False)
        self.assertIs(holds(("endless", TWO, order, "ab", "b", "a", "a"), paper), False)

    def test_a_ring_of_unlike_sounds_is_read_from_the_side(self):
        # An a falls behind b, a b behind a: so behind the first sound nothing is left.
        falls = rule("along", "a> b>", "ab")
        order = ("left", (falls,))
        paper = self.paper(order)
        self.assertIs(holds(("endless", TWO, order, "a", "a", "ab", ""), paper), True)
        other = ("right", (rule("along", "a> b>", None, "ab"),))
        paper = self.paper(other)
        self.assertIs(holds(("endless", TWO, other, "a", "", "ab", "a"), paper), True)
        self.assertIs(holds(("endless", TWO, other, "a", "a", "ab", ""), paper), False)
        # From this state b, then a leads back; a, then b does not.
        machine = ("", (("", (("", 1), ("", 0))), ("", (("", 1), ("", 0)))))
        nothing = ("right", (rule("once", "a> b>"),))
        table = naive_table(TWO, nothing, machine)
        self.assertIs(holds(("endless", TWO, nothing, "", "", "ab", "b"), (machine, table)), False)
        self.assertIs(holds(("endless", TWO, nothing, "", "", "ba", "b"), (machine, table)), True)
        self.assertIs(holds(("endless", TWO, nothing, "", "", "ab", "a"), (machine, table)), True)
        self.assertIs(holds(("endless", TWO, nothing, "", "a", "ba", "b"), (machine, table)), True)
        self.assertIs(holds(("endless", TWO, nothing, "", "b", "ab", "ab"), (machine, table)), True)

    def test_wrong_papers(self):
        order = ("left", (FALL,))
        machine, table = self.paper(order)
        claim = ("endless", TWO, order, "ab", "a", "a", "b")
        for paper in (None, (), machine, table, (machine,), (machine, ()), (machine, table, ()), (table, machine),
                      [machine, table], (machine, table[1:]), (machine, table[:-1]), (machine, table + table[:1])):
            self.assertIs(holds(claim, paper), False)

    def test_many_orders_have_just_the_rings_that_are_so(self):
        seen = set()
        for order in many_orders(TWO, 2, 30, 132):
            paper = self.paper(order)
            words = all_words(TWO, 1)
            for ahead, ring, behind in product(words, words[1:], words):
                form = naive_made(order, ahead + behind)
                taken = holds(("endless", TWO, order, form, ahead, ring, behind), paper)
                if taken:
                    for many in range(5):
                        self.assertEqual(naive_made(order, ahead + ring * many + behind), form)
                seen.add((order[0], taken))
        self.assertEqual(len(seen), 4)


class SpoiltTables(unittest.TestCase):
    def tables_of(self, claim, paper):
        """All tables of a paper, each with a function that puts another one in its place."""
        if claim[0] in ("machine", "never", "no way", "no taking"):
            return [(paper, lambda table: table)]
        places = {"alike": (1, 2), "no source": (1, 2), "endless": (1,), "no common": (1, 3, 4)}[claim[0]]
        return [(paper[at], lambda table, at=at: paper[:at] + (table,) + paper[at + 1:]) for at in places]

    def spoilt(self, table):
        for at in range(len(table)):
            yield table[:at] + table[at + 1:]
            yield table[:at + 1] + table[at:]
            for other in self.changed(table[at]):
                yield table[:at] + (other,) + table[at + 1:]
                if other not in table:
                    yield tuple(sorted(table[:at] + (other,) + table[at + 1:]))
        if len(table) > 1:
            yield table[::-1]
            yield table[1:2] + table[:1] + table[2:]
        yield None

    def changed(self, thing):
        """The row with one of its parts changed to another one of that kind."""
        if isinstance(thing, bool):
            return [not thing]
        if isinstance(thing, int):
            return [thing + 1, thing - 1]
        if isinstance(thing, str):
            return [thing + "a", thing[1:], "b", "~"] if thing else ["a", "b"]
        return [thing[:at] + (new,) + thing[at + 1:] for at, part in enumerate(thing) for new in self.changed(part)
                if new != part]

    def test_rows_left_out_twice_not_rising_changed(self):
        seen = set()
        told = []
        for one, other in order_pairs(TWO, 2, 6, 133):
            told += [pair for pair in naive_table_papers(TWO, one, other, ["", "ab"]) if pair[0][0] != "quarrel"]
        for side in ("left", "right"):
            one, other = (side, (FALL,)), (side, (FALL, FALL))
            told.append((("alike", TWO, one, other), alike_paper(TWO, one, other)))
            told.append((("never", TWO, (side, (FALL, FALL)), 1), tuple(sorted(naive_standings(TWO, (side, (FALL, FALL)))))))
        for claim, paper in told:
            if (claim[0], claim[2][0]) in seen and len(seen) > 12:
                continue
            seen.add((claim[0], claim[2][0]))
            self.assertIs(holds(claim, paper), True)
            for table, put_back in self.tables_of(claim, paper):
                for other in self.spoilt(table):
                    self.assertIs(holds(claim, put_back(other)), False, (claim, other))
        self.assertEqual({kind for kind, side in seen},
                         {"machine", "alike", "no source", "endless", "no common", "never", "no way", "no taking"})

    def test_a_paper_of_another_claim(self):
        told = {}
        for one, other in order_pairs(TWO, 2, 4, 134):
            for claim, paper in naive_word_papers(TWO, one, other, ["ab", "b", "aa"]) + \
                    naive_table_papers(TWO, one, other, ["", "ab"]):
                told.setdefault(claim[0], []).append((claim, paper))
        for kind, own in told.items():
            for other_kind, others in told.items():
                if {kind, other_kind} == {"no way", "no taking"} or kind == other_kind or own[0][1] == others[0][1]:
                    continue
                self.assertIs(holds(own[0][0], others[0][1]), False, (kind, other_kind))


class Sides(unittest.TestCase):
    def test_two_orders_of_unlike_sides(self):
        one, other = ("left", (SWAP,)), ("right", (SWAP,))
        plain = ("right", ())
        machine = least_machine(TWO, one)
        tables = naive_table(TWO, one, machine), naive_table(TWO, other, machine)
        self.assertIs(holds(("alike", TWO, one, one), (machine, tables[0], tables[0])), True)
        self.assertIs(holds(("alike", TWO, other, other), (machine, tables[1], tables[1])), True)
        self.assertIs(holds(("alike", TWO, one, other), (machine,) + tables), False)
        self.assertIs(holds(("alike", TWO, other, one), (machine,) + tables[::-1]), False)
        self.assertIs(holds(("parted", TWO, other, plain, "a"), None), True)
        self.assertIs(holds(("parted", TWO, one, plain, "a"), None), False)
        paper = (machine, tables[0], machine, tables[0], ((0, 0, 0, 0),))
        self.assertIs(holds(("no common", TWO, one, one, "a", "b"), paper), True)
        paper = (machine, tables[0], machine, tables[1], ((0, 0, 0, 0),))
        self.assertIs(holds(("no common", TWO, one, other, "a", "b"), paper), False)


if __name__ == "__main__":
    unittest.main()
