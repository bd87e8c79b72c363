"""Orders that do the same, and words that part those that do not."""

from soundrules.machines import least_machine, shared_start
from soundrules.rules import need_one_side
from soundrules.seeking import shortest_word
from soundrules.stocks import sounds_of


def without_shared(more, less):
    """What is left of two texts without what both begin with."""
    many = len(shared_start([more, less]))
    return more[many:], less[many:]


def parting_word(stock, side, machine, other):
    """A shortest word, as it stands, of which two machines of this side make unlike ones, or None."""
    sounds = sounds_of(stock)

    # With the states goes what one machine has put out beyond the other one. While no word parts them it is the same
    # for all words that come to one pair of states, so that it makes no pair two.
    def lead(pair, sound):
        state, second, more, less = pair
        at = sounds.index(sound)
        put, to = machine[1][state][1][at]
        second_put, second_to = other[1][second][1][at]
        return (to, second_to) + without_shared(more + put, less + second_put)

    def parts(pair):
        state, second, more, less = pair
        return more + machine[1][state][0] != less + other[1][second][0]

    return shortest_word(stock, side, (0, 0) + without_shared(machine[0], other[0]), lead, parts)


def alike(stock, one, other):
    """Whether two orders do the same: ("alike",), or ("parted", word) with a shortest word that parts them."""
    need_one_side(one, other)
    machine = least_machine(stock, one)
    second = least_machine(stock, other)
    if machine == second:
        return ("alike",)
    return ("parted", parting_word(stock, one[0], machine, second))
