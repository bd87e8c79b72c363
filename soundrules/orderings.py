"""The same rules in other orders, and whether a rule acts where it stands."""

from soundrules.errors import NoNumber
from soundrules.things import is_whole
from soundrules.machines import least_machine
from soundrules.seeking import shortest_word
from soundrules.standings import first_standing, standings, watch_end, watch_on


def all_orderings(many):
    """All orderings of so many rules, rising."""
    rows = [()]
    for turn in range(many):
        rows = [row + (number,) for row in rows for number in range(many) if number not in row]
    return rows


def laid(order, ordering):
    """The order with its rules laid as an ordering tells."""
    side, rules = order
    return (side, tuple([rules[number] for number in ordering]))


def classes(stock, order):
    """All orderings of the order, those together that do the same."""
    groups = {}
    for ordering in all_orderings(len(order[1])):
        groups.setdefault(least_machine(stock, laid(order, ordering)), []).append(ordering)
    # As the orderings rise, so do those of each group, and the groups by their first ones.
    return tuple([tuple(group) for group in groups.values()])


def acts(stock, order, number):
    """A shortest word on whose walk the rule with this number acts, or None."""
    if not is_whole(number) or not 0 <= number < len(order[1]):
        raise NoNumber("the order has no rule with this number")
    # Asked only for its refusal.
    standings(stock, order)

    def lead(place, sound):
        standing, put, acting = watch_on(order, place[0], sound)
        return (standing, acting[number])

    def shows(place):
        standing, acting_so_far = place
        return acting_so_far or watch_end(order, standing)[1][number]

    return shortest_word(stock, order[0], (first_standing(order), False), lead, shows)
