"""Two rules: whether one makes way for the other one, or takes from it."""

from soundrules.seeking import shortest_word
from soundrules.standings import first_standing, watch_end, watch_on


def shortest_where(stock, side, rule, other, behind, alone):
    """A shortest word on which the other rule acts, behind the one and alone, just as told here, or None.

    Here behind and alone are truths: whether it acts behind the one rule, and whether it acts on the word itself.
    """
    both = (side, (rule, other))
    itself = (side, (other,))

    def lead(row, sound):
        standing, own, so_far, own_so_far = row
        standing, put, acting = watch_on(both, standing, sound)
        own, put, own_acting = watch_on(itself, own, sound)
        return (standing, own, so_far or acting[1], own_so_far or own_acting[0])

    def shows(row):
        standing, own, so_far, own_so_far = row
        at_end = so_far or watch_end(both, standing)[1][1]
        own_at_end = own_so_far or watch_end(itself, own)[1][0]
        return at_end == behind and own_at_end == alone

    return shortest_word(stock, side, (first_standing(both), first_standing(itself), False, False), lead, shows)


def makes_way(stock, side, rule, other):
    """A shortest word on which the other rule does not act, but does behind the one, or None."""
    return shortest_where(stock, side, rule, other, True, False)


def takes_from(stock, side, rule, other):
    """A shortest word on which the other rule acts, but does not behind the one, or None."""
    return shortest_where(stock, side, rule, other, False, True)
