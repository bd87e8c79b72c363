"""Texts: stocks, rules and orders written and read."""

from soundrules.errors import NoText
from soundrules.rules import is_order, is_rule
from soundrules.stocks import is_stock, sounds_by

NO_SOUND = "0"
ALL_FITS = "*"


def need_text(thing):
    """Refuses a thing of any kind that is no text."""
    if not isinstance(thing, str):
        raise NoText(None)


def show_stock(stock):
    """The stock as a text."""
    return ", ".join([" ".join((sound,) + marks) for sound, marks in stock])


def read_stock(text):
    """The stock that is written so."""
    need_text(text)
    rows = ()
    for number, part in enumerate(text.split(", ")):
        words = part.split(" ")
        rows = rows + ((words[0], tuple(words[1:])),)
        # Whatever has begun well is a stock, too, so the first part by which it is none is the wrong one.
        if not is_stock(rows):
            raise NoText(number)
    return rows


def show_sound(sound):
    """A sound of a change, or that there is none."""
    return NO_SOUND if sound == "" else sound


def show_signs(signs):
    """Left or right of a rule as a text."""
    return ALL_FITS if signs is None else "".join(signs)


def show_rule(rule):
    """The rule as a text."""
    way, changes, left, right = rule
    shown = [f"{show_sound(old)}>{show_sound(new)}" for old, new in changes]
    return " ".join([way] + shown + ["/", show_signs(left), "_", show_signs(right)])


def read_sound(text):
    """One side of a change: a sound, if it is one, or the text without signs; None where nothing is written."""
    if text == "":
        return None
    return "" if text == NO_SOUND else text


def read_signs(stock, text):
    """Left or right of a rule, if it is one."""
    if text == ALL_FITS:
        return None
    if not text.startswith("[") or not text.endswith("]"):
        return tuple(text)
    # What is no name is no sound's mark either, so that no sounds are told, which is no rule's left or right.
    return sounds_by(stock, text[1:-1].split(" "))


def read_parts(stock, text):
    """What is written as a rule, if it is one; None where it has not a rule's parts."""
    words = text.split(" ")
    if "/" not in words or "_" not in words:
        return None
    slash = words.index("/")
    line = words.index("_")
    changes = tuple([tuple([read_sound(side) for side in word.split(">")]) for word in words[1:slash]])
    left = read_signs(stock, " ".join(words[slash + 1:line]))
    return (words[0], changes, left, read_signs(stock, " ".join(words[line + 1:])))


def read_rule(stock, text):
    """The rule of the stock that is written so."""
    need_text(text)
    rule = read_parts(stock, text)
    if not is_rule(stock, rule):
        raise NoText(0)
    return rule


def show_order(order):
    """The order as a text."""
    side, rules = order
    return "; ".join([side] + [show_rule(rule) for rule in rules])


def read_order(stock, text):
    """The order of the stock that is written so."""
    need_text(text)
    parts = text.split("; ")
    order = (parts[0], ())
    if not is_order(stock, order):
        raise NoText(0)
    for number in range(1, len(parts)):
        order = (parts[0], order[1] + (read_parts(stock, parts[number]),))
        if not is_order(stock, order):
            raise NoText(number)
    return order
