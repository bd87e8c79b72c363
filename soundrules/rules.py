"""Rules and orders: what they are, which signs fit, rules turned about."""

from soundrules.errors import NoSide
from soundrules.stocks import EDGE, is_pair, rises, sounds_of

WAYS = ("once", "along")
SIDES = ("left", "right")
MOST_RULES = 4


def changes_sound(sounds, thing):
    """Whether a thing of any kind changes one of these sounds to another one, or leaves it out."""
    if not is_pair(thing):
        return False
    old, new = thing
    return old in sounds and (new in sounds or new == "") and old != new


def puts_one_in(sounds, thing):
    """Whether a thing of any kind is a pair that puts in one of these sounds."""
    return is_pair(thing) and thing[0] == "" and thing[1] in sounds


def are_changes(sounds, thing):
    """Whether a thing of any kind is a rule's changes, of either form."""
    if not isinstance(thing, tuple) or len(thing) == 0:
        return False
    if len(thing) == 1 and puts_one_in(sounds, thing[0]):
        return True
    # Four sounds at the most, each changed once: so there are never more than four changes.
    return all([changes_sound(sounds, change) for change in thing]) and rises([old for old, new in thing])


def are_signs(sounds, thing):
    """Whether a thing of any kind is what a rule may have as left and right."""
    if thing is None:
        return True
    if not isinstance(thing, tuple) or len(thing) == 0:
        return False
    return all([sign == EDGE or sign in sounds for sign in thing]) and rises(thing)


def is_rule(stock, thing):
    """Whether a thing of any kind is a rule of the stock."""
    if not isinstance(thing, tuple) or len(thing) != 4:
        return False
    way, changes, left, right = thing
    sounds = sounds_of(stock)
    return way in WAYS and are_changes(sounds, changes) and are_signs(sounds, left) and are_signs(sounds, right)


def is_order(stock, thing):
    """Whether a thing of any kind is an order of the stock."""
    if not is_pair(thing):
        return False
    side, rules = thing
    if side not in SIDES or not isinstance(rules, tuple) or len(rules) > MOST_RULES:
        return False
    return all([is_rule(stock, rule) for rule in rules])


def fits(signs, sign):
    """Whether a sign fits what a rule has as left or right."""
    return signs is None or sign in signs


def turned(rule):
    """The rule with left and right exchanged."""
    way, changes, left, right = rule
    return (way, changes, right, left)


def puts_in(rule):
    """Whether the rule is one that puts a sound in."""
    return rule[1][0][0] == ""


def need_one_side(one, other):
    """Refuses two orders that are not of one side."""
    if one[0] != other[0]:
        raise NoSide("the orders are not of one side")
