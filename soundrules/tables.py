"""Tables: rows that follow all readings at once, and so show what holds of every word.

Of each kind of table four things are told here, together called its plan: is_one(thing), whether a thing of any kind is
written as a row of it; first, the row ahead of all reading, None where none is asked for; lead(row, sound), the row
behind a sound, likewise; and well(row), whether all is there as it has to be.
"""

from soundrules.standings import end_of, first_standing, read_on, watch_end, watch_on
from soundrules.stocks import sounds_of
from soundrules.things import are_rising, is_number_below, is_row, is_standing


def is_held(stock, plan, thing):
    """Whether a thing of any kind is a table by this plan, from which no reading leads out and where all is well."""
    is_one, first, lead, well = plan
    if not are_rising(is_one, thing):
        return False
    there = {row: True for row in thing}
    if first is not None and first not in there:
        return False
    for row in thing:
        behind = [lead(row, sound) for sound in sounds_of(stock)]
        if not well(row) or not all([each is None or each in there for each in behind]):
            return False
    return True


def step_of(stock, machine, number, sound):
    """The step that the machine takes from a state by a sound: what is put out, and the number of the next state."""
    return machine[1][number][1][sounds_of(stock).index(sound)]


def beyond(one, other):
    """What each of two texts has beyond the other one, at least one of them nothing.

    Where neither is a beginning of the other both are told whole: then both have signs, and no row is so.
    """
    if one.startswith(other):
        return one[len(other):], ""
    if other.startswith(one):
        return "", other[len(one):]
    return one, other


def machine_plan(stock, order, machine):
    """The plan of rows (standing, number, more, less) which show that the machine makes what the order makes."""
    first, states = machine

    def is_one(thing):
        if not is_row(4, thing):
            return False
        standing, number, more, less = thing
        if not is_standing(stock, order, standing) or not is_number_below(len(states), number):
            return False
        return isinstance(more, str) and isinstance(less, str) and (more == "" or less == "")

    def lead(row, sound):
        standing, number, more, less = row
        behind, put = read_on(order, standing, sound)
        machine_put, to = step_of(stock, machine, number, sound)
        return (behind, to) + beyond(more + put, less + machine_put)

    def well(row):
        standing, number, more, less = row
        return more + end_of(order, standing) == less + states[number][0]

    return is_one, (first_standing(order), 0, "", first), lead, well


def forms_plan(stock, side, machines, forms):
    """The plan of rows which show that there is no word of which each machine makes its form.

    A row has the number of each machine's state, then of each form how many sounds are put out.
    """
    many = len(machines)
    goals = [form[::-1] if side == "right" else form for form in forms]

    def is_one(thing):
        if not is_row(2 * many, thing):
            return False
        states = [is_number_below(len(machine[1]), number) for machine, number in zip(machines, thing[:many])]
        return all(states + [is_number_below(len(goal) + 1, out) for goal, out in zip(goals, thing[many:])])

    def lead(row, sound):
        numbers = []
        outs = []
        for machine, goal, number, out in zip(machines, goals, row[:many], row[many:]):
            put, to = step_of(stock, machine, number, sound)
            if not goal[out:].startswith(put):
                return None
            numbers.append(to)
            outs.append(out + len(put))
        return tuple(numbers + outs)

    def well(row):
        return not all([goal[out:] == machine[1][number][0]
                        for machine, goal, number, out in zip(machines, goals, row[:many], row[many:])])

    first = None
    if all([goal.startswith(machine[0]) for machine, goal in zip(machines, goals)]):
        first = tuple([0 for machine in machines] + [len(machine[0]) for machine in machines])
    return is_one, first, lead, well


def never_plan(stock, order, number):
    """The plan of standings which show that the rule with this number never acts."""

    def is_one(thing):
        return is_standing(stock, order, thing)

    def lead(standing, sound):
        return read_on(order, standing, sound)[0]

    def well(standing):
        by_sounds = [watch_on(order, standing, sound)[2][number] for sound in sounds_of(stock)]
        return not any(by_sounds) and not watch_end(order, standing)[1][number]

    return is_one, first_standing(order), lead, well


def two_rules_plan(stock, side, rules, barred):
    """The plan of rows (standing, standing, behind, alone) which show that no word ends with behind and alone so."""
    rule, other = rules
    both = (side, rules)
    itself = (side, (other,))

    def is_one(thing):
        if not is_row(4, thing):
            return False
        standing, own, behind, alone = thing
        if not is_standing(stock, both, standing) or not is_standing(stock, itself, own):
            return False
        return isinstance(behind, bool) and isinstance(alone, bool)

    def lead(row, sound):
        standing, own, behind, alone = row
        standing, put, acting = watch_on(both, standing, sound)
        own, put, own_acting = watch_on(itself, own, sound)
        return (standing, own, behind or acting[1], alone or own_acting[0])

    def well(row):
        standing, own, behind, alone = row
        return (behind or watch_end(both, standing)[1][1], alone or watch_end(itself, own)[1][0]) != barred

    return is_one, (first_standing(both), first_standing(itself), False, False), lead, well
