"""The words of a net by their numbers: those with fewer sounds first, alike long ones as texts.

Words are gone through as they stand, whatever side they are read from. So of the side right a net is gone through from
its ends to its knot 0, and a sound may lead from a knot to several ones; but each word has one way only.
"""

from soundrules.nets import ways_back
from soundrules.stocks import sounds_of


def text_starts(net, side):
    """The knots at which the texts of a net begin."""
    if side == "left":
        return [0]
    return [at for at, (ends, steps) in enumerate(net) if ends]


def text_steps(net, side):
    """For each knot a dict: the knots to which a sound leads, as the text goes on."""
    onward = [{} for knot in net]
    for at, (ends, steps) in enumerate(net):
        for sound, to in steps.items():
            if side == "left":
                onward[at][sound] = [to]
            else:
                onward[to].setdefault(sound, []).append(at)
    return onward


def text_layers(net, side):
    """The first layer, of the texts without sounds, and for each knot those to which its count is passed on.

    A layer is a dict: for a knot the number of texts with so many sounds that lead from it to where texts end.
    """
    if side == "left":
        return {at: 1 for at, (ends, steps) in enumerate(net) if ends}, ways_back(net)
    return {0: 1}, [list(steps.values()) for ends, steps in net]


def next_layer(layer, back):
    """The layer of the texts with one sound more."""
    more = {}
    for at, many in layer.items():
        for ahead in back[at]:
            more[ahead] = more.get(ahead, 0) + many
    return more


def many_at(layer, knots):
    """How many texts of a layer lead on from these knots."""
    return sum([layer.get(at, 0) for at in knots])


def all_behind(onward, knots, sound):
    """The knots to which a sound leads from these."""
    return [to for at in knots for to in onward[at].get(sound, [])]


def word_at(stock, side, net, number):
    """The word of a net that has this number; there must be one."""
    knots = text_starts(net, side)
    onward = text_steps(net, side)
    first, back = text_layers(net, side)
    layers = [first]
    still = number
    while still >= many_at(layers[-1], knots):
        still -= many_at(layers[-1], knots)
        layers.append(next_layer(layers[-1], back))
    text = []
    for layer in layers[:-1][::-1]:
        for sound in sounds_of(stock):
            behind = all_behind(onward, knots, sound)
            many = many_at(layer, behind)
            if still < many:
                break
            still -= many
        text.append(sound)
        knots = behind
    return "".join(text)


def number_in(stock, side, net, word):
    """The number of a word of the net."""
    knots = text_starts(net, side)
    onward = text_steps(net, side)
    first, back = text_layers(net, side)
    layers = [first]
    number = 0
    for sound in word:
        number += many_at(layers[-1], knots)
        layers.append(next_layer(layers[-1], back))
    for sound, layer in zip(word, layers[:-1][::-1]):
        for less in sounds_of(stock):
            if less < sound:
                number += many_at(layer, all_behind(onward, knots, less))
        knots = all_behind(onward, knots, sound)
    return number
