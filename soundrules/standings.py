"""Orders that read a word sound by sound: their standings and what they put out."""

from soundrules.errors import TooMany
from soundrules.rules import fits, puts_in, turned
from soundrules.stocks import EDGE, sounds_of

MOST_STANDINGS = 600


def reading_rules(order):
    """The order's rules as they read: from the right, with left and right exchanged."""
    side, rules = order
    if side == "right":
        return tuple([turned(rule) for rule in rules])
    return rules


def first_standing(order):
    """The order's standing ahead of all reading."""
    return tuple([(fits(left, EDGE), "") for way, changes, left, right in reading_rules(order)])


def read_putting_in(rule, standing, sign):
    """How a rule that puts in reads a sign: its new standing, and what it puts out."""
    way, changes, left, right = rule
    near, held = standing
    put = held
    if near and fits(right, sign):
        put = held + changes[0][1]
    return (fits(left, sign), sign), put


def read_changing(rule, standing, sign):
    """How a rule that changes or leaves out reads a sign: its new standing, and what it puts out."""
    way, changes, left, right = rule
    near, held = standing
    if held == "":
        return (near, sign), ""
    put = held
    if near and fits(right, sign):
        put = dict(changes).get(held, held)
    if way == "once":
        return (fits(left, held), sign), put
    if put == "":
        return (near, sign), put
    return (fits(left, put), sign), put


def read_signs(rule, standing, signs):
    """How a rule reads signs one after another: its new standing, all that it puts out, and whether it acts by it."""
    puts = []
    acting = False
    for sign in signs:
        held = standing[1]
        if puts_in(rule):
            standing, put = read_putting_in(rule, standing, sign)
        else:
            standing, put = read_changing(rule, standing, sign)
        # A rule that does nothing puts out what it held, neither more nor less.
        acting = acting or put != held
        puts.append(put)
    return standing, "".join(puts), acting


def watch_on(order, standing, sound):
    """The order's standing behind a sound, what is put out, and for each rule whether it acts by it."""
    put = sound
    behind = []
    acting = []
    for rule, own in zip(reading_rules(order), standing):
        new, put, acts_here = read_signs(rule, own, put)
        behind.append(new)
        acting.append(acts_here)
    return tuple(behind), put, tuple(acting)


def watch_end(order, standing):
    """What the order puts out at the end of the word, and for each rule whether it acts there."""
    put = ""
    acting = []
    for rule, own in zip(reading_rules(order), standing):
        new, put, acts_here = read_signs(rule, own, put + EDGE)
        acting.append(acts_here)
    return put, tuple(acting)


def read_on(order, standing, sound):
    """The order's standing behind a sound, and what is put out."""
    behind, put, acting = watch_on(order, standing, sound)
    return behind, put


def end_of(order, standing):
    """What the order puts out at the end of the word."""
    return watch_end(order, standing)[0]


def readings(stock, order):
    """All standings as they are come to by breadth, and the steps of each.

    A step, one for each sound, is what is put out and the place of the standing that it leads to.
    """
    found = [first_standing(order)]
    places = {found[0]: 0}
    rows = []
    while len(rows) < len(found):
        steps = []
        for sound in sounds_of(stock):
            behind, put = read_on(order, found[len(rows)], sound)
            if behind not in places:
                places[behind] = len(found)
                found.append(behind)
            steps.append((put, places[behind]))
        if len(found) > MOST_STANDINGS:
            raise TooMany(f"the order has more than {MOST_STANDINGS} standings")
        rows.append(tuple(steps))
    return found, rows


def standings(stock, order):
    """All standings of the order that words come to, rising."""
    return tuple(sorted(readings(stock, order)[0]))
