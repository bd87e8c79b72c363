"""Things of any kind: whether they are what claims and papers are made of."""

from soundrules.stocks import is_pair, is_word, rises

MOST_PAIRS = 6


def is_whole(thing):
    """Whether a thing of any kind is a whole number: a truth is none."""
    return isinstance(thing, int) and not isinstance(thing, bool)


def is_number_below(many, thing):
    """Whether a thing of any kind is a whole number from 0 on that is less than many."""
    return is_whole(thing) and 0 <= thing < many


def is_row(many, thing):
    """Whether a thing of any kind is a tuple of so many parts."""
    return isinstance(thing, tuple) and len(thing) == many


def are_rising(is_one, thing):
    """Whether a thing of any kind is a rising tuple of such ones."""
    return isinstance(thing, tuple) and all([is_one(each) for each in thing]) and rises(thing)


def is_step(stock, many, thing):
    """Whether a thing of any kind is a step of a machine that has so many states."""
    return is_pair(thing) and is_word(stock, thing[0]) and is_number_below(many, thing[1])


def is_state(stock, many, thing):
    """Whether a thing of any kind is a state of a machine that has so many."""
    if not is_pair(thing):
        return False
    end, steps = thing
    return is_word(stock, end) and is_row(len(stock), steps) and all([is_step(stock, many, step) for step in steps])


def is_machine(stock, thing):
    """Whether a thing of any kind is a machine of the stock."""
    if not is_pair(thing):
        return False
    first, states = thing
    if not is_word(stock, first) or not isinstance(states, tuple) or len(states) == 0:
        return False
    return all([is_state(stock, len(states), state) for state in states])


def is_rule_standing(stock, thing):
    """Whether a thing of any kind is written as one rule's standing."""
    if not is_pair(thing):
        return False
    near, held = thing
    return isinstance(near, bool) and is_word(stock, held) and len(held) <= 1


def is_standing(stock, order, thing):
    """Whether a thing of any kind is written as a standing of the order, come to or not."""
    return is_row(len(order[1]), thing) and all([is_rule_standing(stock, own) for own in thing])


def is_told_pair(stock, thing):
    """Whether a thing of any kind is a pair of a book: a word and its form."""
    return is_pair(thing) and is_word(stock, thing[0]) and is_word(stock, thing[1])


def is_book(stock, thing):
    """Whether a thing of any kind is a book of the stock."""
    if not isinstance(thing, tuple) or not 1 <= len(thing) <= MOST_PAIRS:
        return False
    return all([is_told_pair(stock, pair) for pair in thing])
