"""Rules at work: what rules and orders make of a word."""

from soundrules.rules import fits, puts_in, turned
from soundrules.stocks import EDGE


def with_put_in(rule, word):
    """What a rule that puts in makes of a word, read from the left."""
    way, changes, left, right = rule
    new = changes[0][1]
    made_of = []
    ahead = EDGE
    for sign in word + EDGE:
        if fits(left, ahead) and fits(right, sign):
            made_of.append(new)
        made_of.append(sign)
        ahead = sign
    # The last sign is the edge, which is no part of the word.
    return "".join(made_of[:-1])


def with_changes(rule, word):
    """What a rule that changes sounds or leaves them out makes of a word, read from the left."""
    way, changes, left, right = rule
    becomes = dict(changes)
    signs = word + EDGE
    made_of = []
    ahead = EDGE
    for at, sound in enumerate(word):
        new = sound
        if sound in becomes and fits(left, ahead) and fits(right, signs[at + 1]):
            new = becomes[sound]
        made_of.append(new)
        if way == "once":
            ahead = sound
        elif new != "":
            ahead = new
    return "".join(made_of)


def from_left(rule, word):
    """What the rule makes of a word, read from the left."""
    if puts_in(rule):
        return with_put_in(rule, word)
    return with_changes(rule, word)


def changed(side, rule, word):
    """What the rule makes of a word, as the one rule of an order of this side."""
    if side == "right":
        return from_left(turned(rule), word[::-1])[::-1]
    return from_left(rule, word)


def walk(order, word):
    """The words that are there ahead of the rules and behind each of them."""
    side, rules = order
    words = [word]
    for rule in rules:
        words.append(changed(side, rule, words[-1]))
    return tuple(words)


def made(order, word):
    """What the order makes of a word."""
    return walk(order, word)[-1]
