"""Papers: for each question the claim that is true, with the paper that shows it to the checker."""

from soundrules.books import pairs_told, told_by
from soundrules.changing import made, walk
from soundrules.daughters import common
from soundrules.likeness import alike
from soundrules.machines import least_machine
from soundrules.orderings import acts, all_orderings, laid
from soundrules.sources import sources
from soundrules.standings import standings
from soundrules.stocks import sounds_of
from soundrules.tables import forms_plan, machine_plan, two_rules_plan
from soundrules.tworules import makes_way, takes_from


def table_by(stock, plan):
    """All rows that readings lead to by the plan of a table, rising."""
    is_one, first, lead, well = plan
    rows = [] if first is None else [first]
    known = {row: True for row in rows}
    at = 0
    while at < len(rows):
        for sound in sounds_of(stock):
            behind = lead(rows[at], sound)
            if behind is not None and behind not in known:
                known[behind] = True
                rows.append(behind)
        at += 1
    return tuple(sorted(rows))


def table_of(stock, order, machine):
    """The table that shows that the machine is the order's."""
    return table_by(stock, machine_plan(stock, order, machine))


def paper_makes(stock, order, word):
    """What the order makes of a word."""
    return ("makes", stock, order, word, made(order, word)), walk(order, word)


def paper_machine(stock, order):
    """The order's least machine."""
    machine = least_machine(stock, order)
    return ("machine", stock, order, machine), table_of(stock, order, machine)


def paper_alike(stock, one, other):
    """Whether two orders do the same: the claim is alike or parted."""
    told = alike(stock, one, other)
    if told[0] == "parted":
        return ("parted", stock, one, other, told[1]), None
    machine = least_machine(stock, one)
    paper = (machine, table_of(stock, one, machine), table_of(stock, other, machine))
    return ("alike", stock, one, other), paper


def paper_no_source(stock, order, form):
    """That a form has no source; None where it has one."""
    if sources(stock, order, form)[0] != "none":
        return None
    machine = least_machine(stock, order)
    rows = table_by(stock, forms_plan(stock, order[0], (machine,), (form,)))
    return ("no source", stock, order, form), (machine, table_of(stock, order, machine), rows)


def paper_endless(stock, order, form):
    """That there is no end of a form's sources; None where there is."""
    told = sources(stock, order, form)
    if told[0] != "endless":
        return None
    machine = least_machine(stock, order)
    return ("endless", stock, order, form) + told[1:], (machine, table_of(stock, order, machine))


def paper_no_common(stock, one, other, form, second):
    """That two forms have no common source; None where they have one."""
    if common(stock, one, other, form, second)[0] != "none":
        return None
    machine = least_machine(stock, one)
    other_machine = least_machine(stock, other)
    rows = table_by(stock, forms_plan(stock, one[0], (machine, other_machine), (form, second)))
    paper = (machine, table_of(stock, one, machine), other_machine, table_of(stock, other, other_machine), rows)
    return ("no common", stock, one, other, form, second), paper


def paper_acts(stock, order, number):
    """Whether a rule acts where it stands: the claim is acts or never."""
    word = acts(stock, order, number)
    if word is not None:
        return ("acts", stock, order, number, word), None
    return ("never", stock, order, number), standings(stock, order)


def paper_way(stock, side, rule, other):
    """Whether a rule makes way for another one: the claim is makes way or no way."""
    word = makes_way(stock, side, rule, other)
    if word is not None:
        return ("makes way", stock, side, rule, other, word), None
    rows = table_by(stock, two_rules_plan(stock, side, (rule, other), (True, False)))
    return ("no way", stock, side, rule, other), rows


def paper_taking(stock, side, rule, other):
    """Whether a rule takes from another one: the claim is takes or no taking."""
    word = takes_from(stock, side, rule, other)
    if word is not None:
        return ("takes", stock, side, rule, other, word), None
    rows = table_by(stock, two_rules_plan(stock, side, (rule, other), (False, True)))
    return ("no taking", stock, side, rule, other), rows


def paper_quarrel(stock, order, book):
    """The pairs of a book that no ordering tells together; None where some ordering tells the book."""
    told = told_by(order, book)
    if told[0] != "quarrel":
        return None
    pairs = tuple([book[number] for number in told[1]])
    tellings = [pairs_told(laid(order, ordering), pairs) for ordering in all_orderings(len(order[1]))]
    return ("quarrel", stock, order, pairs), tuple([telling.index(False) for telling in tellings])
