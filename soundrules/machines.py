"""Machines: what they make of a word, and the least machine of an order."""

from soundrules.standings import end_of, readings
from soundrules.stocks import sounds_of


def run(stock, machine, side, word):
    """What a machine that reads from this side makes of a word."""
    first, states = machine
    sounds = sounds_of(stock)
    puts = [first]
    state = 0
    read = word[::-1] if side == "right" else word
    for sound in read:
        put, state = states[state][1][sounds.index(sound)]
        puts.append(put)
    puts.append(states[state][0])
    whole = "".join(puts)
    return whole[::-1] if side == "right" else whole


def standing_states(stock, order):
    """A state for each standing of the order, the first one ahead."""
    found, rows = readings(stock, order)
    return [(end_of(order, standing), steps) for standing, steps in zip(found, rows)]


def shared_start(texts):
    """The longest text with which all of these begin."""
    start = texts[0]
    for text in texts:
        many = 0
        while many < len(start) and many < len(text) and start[many] == text[many]:
            many += 1
        start = start[:many]
    return start


def certain_starts(states):
    """For each state the longest text with which all begins that it makes.

    At first only the end is known to be made; each round knows of words one sound longer.
    """
    known = []
    starts = [end for end, steps in states]
    while starts != known:
        known = starts
        starts = [shared_start([end] + [put + known[to] for put, to in steps]) for end, steps in states]
    return starts


def put_out_early(states):
    """What is put out ahead of all, and the states, each putting out what is certain before it is come to."""
    starts = certain_starts(states)
    early = []
    for start, (end, steps) in zip(starts, states):
        many = len(start)
        early.append((end[many:], tuple([((put + starts[to])[many:], to) for put, to in steps])))
    return starts[0], early


def numbered(things):
    """For each of these a number, like ones for like things, as they first come."""
    numbers = {}
    for thing in things:
        if thing not in numbers:
            numbers[thing] = len(numbers)
    return [numbers[thing] for thing in things]


def like_states(states):
    """For each state the number of its group: two are in one just where they make the same of all."""
    groups = numbered([(end, tuple([put for put, to in steps])) for end, steps in states])
    many = 0
    while many < len(set(groups)):
        many = len(set(groups))
        groups = numbered([(groups[at], tuple([groups[to] for put, to in steps]))
                           for at, (end, steps) in enumerate(states)])
    return groups


def joined(states):
    """The states with like ones as one, numbered as they are first come to."""
    groups = like_states(states)
    places = {groups[0]: 0}
    kept = [0]
    told = []
    while len(told) < len(kept):
        end, steps = states[kept[len(told)]]
        new_steps = []
        for put, to in steps:
            if groups[to] not in places:
                places[groups[to]] = len(kept)
                kept.append(to)
            new_steps.append((put, places[groups[to]]))
        told.append((end, tuple(new_steps)))
    return tuple(told)


def least_machine(stock, order):
    """The least machine of the order."""
    first, states = put_out_early(standing_states(stock, order))
    return (first, joined(states))
