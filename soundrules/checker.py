"""The checker: whether a claim and its paper, of things of any kind, show what they say.

It trusts nobody: nothing is taken from those parts of the program that find the answers.
"""

from soundrules.changing import changed, made, walk
from soundrules.rules import SIDES, is_order, is_rule
from soundrules.stocks import is_stock, is_word
from soundrules.tables import forms_plan, is_held, machine_plan, never_plan, step_of, two_rules_plan
from soundrules.things import is_book, is_machine, is_number_below, is_row, is_whole

# The kinds of the parts of each claim behind its stock.
PARTS = {
    "makes": ("order", "word", "word"),
    "machine": ("order", "machine"),
    "alike": ("order", "order"),
    "parted": ("order", "order", "word"),
    "no source": ("order", "word"),
    "endless": ("order", "word", "word", "word", "word"),
    "no common": ("order", "order", "word", "word"),
    "acts": ("order", "number", "word"),
    "never": ("order", "number"),
    "makes way": ("side", "rule", "rule", "word"),
    "takes": ("side", "rule", "rule", "word"),
    "no way": ("side", "rule", "rule"),
    "no taking": ("side", "rule", "rule"),
    "quarrel": ("order", "book"),
}


def is_part(stock, kind, thing):
    """Whether a thing of any kind is a part of this kind of a claim."""
    if kind == "order":
        return is_order(stock, thing)
    if kind == "rule":
        return is_rule(stock, thing)
    if kind == "word":
        return is_word(stock, thing)
    if kind == "machine":
        return is_machine(stock, thing)
    if kind == "book":
        return is_book(stock, thing)
    if kind == "side":
        return thing in SIDES
    return is_whole(thing)


def are_parts(stock, kinds, things):
    """Whether these things are parts of just these kinds, all orders among them of one side."""
    if len(things) != len(kinds):
        return False
    if not all([is_part(stock, kind, thing) for kind, thing in zip(kinds, things)]):
        return False
    return len({thing[0] for kind, thing in zip(kinds, things) if kind == "order"}) <= 1


def is_machine_of(stock, order, machine, table):
    """Whether the first thing of any kind is a machine, and the second a table by which it is the order's."""
    return is_machine(stock, machine) and is_held(stock, machine_plan(stock, order, machine), table)


def makes_shown(stock, parts, paper):
    order, word, form = parts
    return made(order, word) == form and walk(order, word) == paper


def machine_shown(stock, parts, paper):
    order, machine = parts
    return is_machine_of(stock, order, machine, paper)


def alike_shown(stock, parts, paper):
    order, other = parts
    if not is_row(3, paper):
        return False
    machine, table, other_table = paper
    return is_machine_of(stock, order, machine, table) and is_machine_of(stock, other, machine, other_table)


def parted_shown(stock, parts, paper):
    order, other, word = parts
    return paper is None and made(order, word) != made(other, word)


def no_source_shown(stock, parts, paper):
    order, form = parts
    if not is_row(3, paper):
        return False
    machine, table, rows = paper
    if not is_machine_of(stock, order, machine, table):
        return False
    return is_held(stock, forms_plan(stock, order[0], (machine,), (form,)), rows)


def no_common_shown(stock, parts, paper):
    order, other, form, second = parts
    if not is_row(5, paper):
        return False
    machine, table, other_machine, other_table, rows = paper
    if not is_machine_of(stock, order, machine, table):
        return False
    if not is_machine_of(stock, other, other_machine, other_table):
        return False
    return is_held(stock, forms_plan(stock, order[0], (machine, other_machine), (form, second)), rows)


def read_from(stock, machine, state, sounds):
    """The state that is come to from another one by reading these sounds, and what is put out by it."""
    puts = []
    for sound in sounds:
        put, state = step_of(stock, machine, state, sound)
        puts.append(put)
    return state, "".join(puts)


def endless_shown(stock, parts, paper):
    order, form, ahead, ring, behind = parts
    if ring == "" or made(order, ahead + behind) != form or not is_row(2, paper):
        return False
    machine, table = paper
    if not is_machine_of(stock, order, machine, table):
        return False
    if order[0] == "right":
        ahead, ring = behind[::-1], ring[::-1]
    state, put = read_from(stock, machine, 0, ahead)
    return read_from(stock, machine, state, ring) == (state, "")


def acts_shown(stock, parts, paper):
    order, number, word = parts
    if paper is not None or not is_number_below(len(order[1]), number):
        return False
    words = walk(order, word)
    return words[number] != words[number + 1]


def never_shown(stock, parts, paper):
    order, number = parts
    return is_number_below(len(order[1]), number) and is_held(stock, never_plan(stock, order, number), paper)


def behind_and_alone(side, rule, other, word):
    """Whether the other rule acts on a word behind the one, and whether it acts on the word alone."""
    between = changed(side, rule, word)
    return changed(side, other, between) != between, changed(side, other, word) != word


def way_shown(stock, parts, paper):
    side, rule, other, word = parts
    return paper is None and behind_and_alone(side, rule, other, word) == (True, False)


def taking_shown(stock, parts, paper):
    side, rule, other, word = parts
    return paper is None and behind_and_alone(side, rule, other, word) == (False, True)


def no_way_shown(stock, parts, paper):
    side, rule, other = parts
    return is_held(stock, two_rules_plan(stock, side, (rule, other), (True, False)), paper)


def no_taking_shown(stock, parts, paper):
    side, rule, other = parts
    return is_held(stock, two_rules_plan(stock, side, (rule, other), (False, True)), paper)


def layings(rules):
    """All rows in which these rules can be laid, rising by their numbers."""
    rows = [()]
    for turn in range(len(rules)):
        rows = [row + (number,) for row in rows for number in range(len(rules)) if number not in row]
    return [tuple([rules[number] for number in row]) for row in rows]


def quarrel_shown(stock, parts, paper):
    order, book = parts
    side, rules = order
    rows = layings(rules)
    if not is_row(len(rows), paper) or not all([is_number_below(len(book), number) for number in paper]):
        return False
    return all([made((side, row), book[number][0]) != book[number][1] for row, number in zip(rows, paper)])


# Each of these tells whether the parts of a claim, as PARTS lists them, are shown by a paper of any kind.
SHOWN = {
    "makes": makes_shown,
    "machine": machine_shown,
    "alike": alike_shown,
    "parted": parted_shown,
    "no source": no_source_shown,
    "endless": endless_shown,
    "no common": no_common_shown,
    "acts": acts_shown,
    "never": never_shown,
    "makes way": way_shown,
    "takes": taking_shown,
    "no way": no_way_shown,
    "no taking": no_taking_shown,
    "quarrel": quarrel_shown,
}


def holds(claim, paper):
    """Whether the claim and its paper, things of any kind, are as they have to be, so that what is claimed is so."""
    if not isinstance(claim, tuple) or len(claim) < 2:
        return False
    word = claim[0]
    stock = claim[1]
    if not isinstance(word, str) or word not in PARTS or not is_stock(stock):
        return False
    parts = claim[2:]
    shown = SHOWN[word]
    return are_parts(stock, PARTS[word], parts) and shown(stock, parts, paper)
