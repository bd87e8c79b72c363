"""Nets: all sources of a form at once, as ways from knot to knot.

A net is a list of knots, numbered by their places; a knot is (ends, steps): whether a word may end there, and a dict
that tells for each sound with which a word may go on the number of the knot that it leads to. Words begin at knot 0 and
are read from their order's side. From each knot some way leads to an end; a net without knots has no words.
"""

from soundrules.seeking import as_it_stands, shortest_word
from soundrules.stocks import sounds_of


def net_from(stock, first, lead, may_end):
    """The net of all words that start at a place and end where they may.

    Here lead(place, sound) tells the place where the sound leads to, None where no word goes on so.
    """
    places = [first]
    numbers = {first: 0}
    knots = []
    while len(knots) < len(places):
        here = places[len(knots)]
        steps = {}
        for sound in sounds_of(stock):
            place = lead(here, sound)
            if place is None:
                continue
            if place not in numbers:
                numbers[place] = len(places)
                places.append(place)
            steps[sound] = numbers[place]
        knots.append((may_end(here), steps))
    return without_dead_ends(knots)


def ways_back(knots):
    """For each knot the knots from which a step leads to it, once for each such step."""
    back = [[] for knot in knots]
    for at, (ends, steps) in enumerate(knots):
        for to in steps.values():
            back[to].append(at)
    return back


def without_dead_ends(knots):
    """The net of those knots alone from which some way leads to an end."""
    back = ways_back(knots)
    alive = [at for at, (ends, steps) in enumerate(knots) if ends]
    known = {at: True for at in alive}
    turn = 0
    while turn < len(alive):
        here = alive[turn]
        for at in back[here]:
            if at not in known:
                known[at] = True
                alive.append(at)
        turn += 1
    numbers = {at: number for number, at in enumerate(sorted(alive))}
    kept = []
    for at in numbers:
        ends, steps = knots[at]
        kept.append((ends, {sound: numbers[to] for sound, to in steps.items() if to in numbers}))
    return kept


def form_net(stock, machine, side, form):
    """The net of all words of which the machine, reading from this side, makes the form."""
    first, states = machine
    sounds = sounds_of(stock)
    goal = as_it_stands(side, form)
    if not goal.startswith(first):
        return []

    def lead(place, sound):
        state, many = place
        put, to = states[state][1][sounds.index(sound)]
        if goal[many:many + len(put)] != put:
            return None
        return (to, many + len(put))

    def may_end(place):
        state, many = place
        return goal[many:] == states[state][0]

    return net_from(stock, (0, len(first)), lead, may_end)


def counted(net):
    """How many words lead from a knot to an end, a dict of those knots from which there is an end of them.

    A knot is counted when all knots are to which its steps lead; so those that lead to a ring never are.
    """
    back = ways_back(net)
    open_steps = [len(steps) for ends, steps in net]
    ready = [at for at, many in enumerate(open_steps) if many == 0]
    many_from = {}
    while len(ready) > 0:
        at = ready.pop()
        ends, steps = net[at]
        many_from[at] = sum([many_from[to] for to in steps.values()], start=1 if ends else 0)
        for ahead in back[at]:
            open_steps[ahead] -= 1
            if open_steps[ahead] == 0:
                ready.append(ahead)
    return many_from


def way_to_ring(net, many_from):
    """A knot on a ring, a way from knot 0 to it, and the ring, both as they are read, of a net that has one."""
    at = 0
    reads = {}
    read = ""
    # Each knot that is not counted has a step to another such one, so this way comes back to itself.
    while at not in reads:
        reads[at] = len(read)
        sound, at = min([(sound, to) for sound, to in net[at][1].items() if to not in many_from])
        read = read + sound
    return at, read[:reads[at]], read[reads[at]:]


def words_told(stock, side, net):
    """What is told of the words of a net, read from this side: ("none",), ("some", many), or ("endless", ..)."""
    if net == []:
        return ("none",)
    many_from = counted(net)
    if 0 in many_from:
        return ("some", many_from[0])
    knot, ahead, ring = way_to_ring(net, many_from)
    behind = shortest_word(stock, "left", knot,
                           lambda at, sound: net[at][1].get(sound),
                           lambda at: net[at][0])
    if side == "right":
        ahead, behind = behind, ahead
    return ("endless", as_it_stands(side, ahead), as_it_stands(side, ring), as_it_stands(side, behind))
