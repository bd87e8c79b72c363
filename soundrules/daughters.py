"""Two daughter tongues: the words from which a form of each can come."""

from soundrules.errors import NoSource
from soundrules.machines import least_machine
from soundrules.nets import form_net, net_from, words_told
from soundrules.numbering import number_in, word_at
from soundrules.rules import need_one_side
from soundrules.sources import is_source, need_number


def shared_net(stock, net, other):
    """The net of all words that two nets have."""
    if net == [] or other == []:
        return []

    def lead(place, sound):
        steps = net[place[0]][1]
        others = other[place[1]][1]
        if sound not in steps or sound not in others:
            return None
        return (steps[sound], others[sound])

    def may_end(place):
        return net[place[0]][0] and other[place[1]][0]

    return net_from(stock, (0, 0), lead, may_end)


def machines_net(stock, side, machines, forms):
    """The net of all words of which two machines of this side make these two forms."""
    one, other = machines
    form, second = forms
    return shared_net(stock, form_net(stock, one, side, form), form_net(stock, other, side, second))


def common_net(stock, one, other, form, second):
    """The net of all common sources of two forms."""
    machines = (least_machine(stock, one), least_machine(stock, other))
    return machines_net(stock, one[0], machines, (form, second))


def common(stock, one, other, form, second):
    """What is told of the common sources of two forms, as it is of the sources of one."""
    need_one_side(one, other)
    return words_told(stock, one[0], common_net(stock, one, other, form, second))


def common_at(stock, one, other, form, second, number):
    """The common source of two forms that has this number."""
    need_one_side(one, other)
    net = common_net(stock, one, other, form, second)
    need_number(net, number)
    return word_at(stock, one[0], net, number)


def common_number(stock, one, other, form, second, word):
    """The number of a common source of two forms."""
    need_one_side(one, other)
    if not is_source(stock, one, form, word) or not is_source(stock, other, second, word):
        raise NoSource("this is no common source of the forms")
    return number_in(stock, one[0], common_net(stock, one, other, form, second), word)


def without_common(stock, one, other, pairs):
    """The numbers of those pairs of forms that have no common source, rising."""
    need_one_side(one, other)
    if pairs == ():
        return ()
    machines = (least_machine(stock, one), least_machine(stock, other))
    nets = [machines_net(stock, one[0], machines, pair) for pair in pairs]
    return tuple([number for number, net in enumerate(nets) if net == []])
