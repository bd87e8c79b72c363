"""What several tests share: stocks, words, things of any kind, many orders, and the document in naive words."""

from itertools import permutations, product

ONE = (("a", ()),)
TWO = (("a", ("vowel",)), ("b", ()))
THREE = (("a", ("open", "vowel")), ("d", ("stop",)), ("e", ("vowel",)))
FOUR = (("a", ()), ("b", ()), ("d", ()), ("e", ()))


def deep(thing, many):
    for turn in range(many):
        thing = (thing,) if turn % 3 == 0 else [thing] if turn % 3 == 1 else {"k": thing}
    return thing


# None of these is a name, a stock, a word, a rule or an order of any of the stocks above.
ODD_THINGS = [
    None, True, False, 0, 1, -1, 12, 10 ** 30, "A", "a ", " ", "0", "#", "~", "a\n", "a#", "once a>b / * _ *",
    [], {}, [()], ((),), (None,), (None, None), (1, 2), (True, False), [1], {"a": 1}, {1: "a"}, {True: None},
    ["a"], [("a", ())], (["a", ()],), {"a": ()}, ("a",), ("a", "b"), (("a", "b"),), ("left",), ["left", ()],
    ("left", []), ("left", {}), ("left", None), ("up", ()), (True, ()), ((), "left"), ["once", (), None, None],
    ("once", (), None, None), deep("a", 11), deep((), 11), deep(None, 12), deep(7, 12),
]


def rule(way, changes, left=None, right=None):
    """A rule by its changes as a text ("a>b e>", nothing for no sound) and its signs as texts."""
    pairs = tuple(tuple(change.split(">")) for change in changes.split(" "))
    return (way, pairs, left and tuple(left), right and tuple(right))


def all_words(stock, most):
    sounds = [sound for sound, marks in stock]
    return ["".join(signs) for many in range(most + 1) for signs in product(sounds, repeat=many)]


class Dice:
    """A row of numbers that looks thrown but is the same on every machine."""

    def __init__(self, seed):
        self.seed = seed

    def below(self, many):
        self.seed = (self.seed * 6364136223846793005 + 1442695040888963407) % 2 ** 64
        return (self.seed >> 33) % many

    def one_of(self, things):
        return things[self.below(len(things))]

    def some_of(self, things):
        """One or more of these, as they stand."""
        picked = [thing for thing in things if self.below(2)]
        return tuple(picked) if picked else (self.one_of(things),)


def thrown_rule(dice, sounds):
    way = dice.one_of(["once", "along"])
    if dice.below(4) == 0:
        changes = (("", dice.one_of(sounds)),)
    else:
        changes = tuple((old, dice.one_of([new for new in sounds + [""] if new != old]))
                        for old in dice.some_of(sounds))
    signs = ["#"] + sounds
    left = None if dice.below(4) == 0 else dice.some_of(signs)
    right = None if dice.below(4) == 0 else dice.some_of(signs)
    return (way, changes, left, right)


def many_orders(stock, most_rules, many, seed):
    """Many orders of the stock, of both sides, with none to most_rules rules."""
    dice = Dice(seed)
    sounds = [sound for sound, marks in stock]
    orders = [("left", ()), ("right", ())]
    for turn in range(many):
        rules = tuple(thrown_rule(dice, sounds) for at in range(1 + dice.below(most_rules)))
        orders.append((("left", "right")[turn % 2], rules))
    return orders


def thrown_word(dice, stock, many):
    return "".join(dice.one_of([sound for sound, marks in stock]) for at in range(many))


def naive_fits(signs, sign):
    return True if signs is None else any(own == sign for own in signs)


def naive_from_left(rule, word):
    """[6] and [7], said once more in another way than the package says them."""
    way, changes, left, right = rule
    if changes[0][0] == "":
        edged = "#" + word + "#"
        gaps = [changes[0][1] if naive_fits(left, edged[at]) and naive_fits(right, edged[at + 1]) else ""
                for at in range(len(edged) - 1)]
        return "".join(gap + sound for gap, sound in zip(gaps, list(word) + [""]))
    made = ""
    for at in range(len(word)):
        so_far = word[:at] if way == "once" else made
        ahead = ("#" + so_far)[-1]
        behind = (word[at + 1:] + "#")[0]
        new = [b for a, b in changes if a == word[at] and naive_fits(left, ahead) and naive_fits(right, behind)]
        made = made + (new[0] if new else word[at])
    return made


def naive_walk(order, word):
    """[8]: of the side right all is done to the word turned about, and each word turned about again."""
    side, rules = order
    if side == "right":
        swapped = tuple((way, changes, right, left) for way, changes, left, right in rules)
        return tuple(each[::-1] for each in naive_walk(("left", swapped), word[::-1]))
    words = [word]
    for rule in rules:
        words.append(naive_from_left(rule, words[-1]))
    return tuple(words)


def naive_made(order, word):
    return naive_walk(order, word)[-1]


def naive_read(rule, standing, sign):
    """[9] for one rule: its standing behind the sign, and what it puts out."""
    way, changes, left, right = rule
    near, held = standing
    acts = near is True and naive_fits(right, sign)
    if changes[0][0] == "":
        return (naive_fits(left, sign), sign), held + changes[0][1] if acts else held
    if not held:
        return (near, sign), ""
    out = held
    for a, b in changes:
        if a == held and acts:
            out = b
    if way == "once":
        return (naive_fits(left, held), sign), out
    return (near if out == "" else naive_fits(left, out), sign), out


def naive_cascade(order, standing, text, ended):
    """[9] for an order: its standing behind the text (and the edge, if ended), and what is put out."""
    side, rules = order
    behind = []
    for (way, changes, left, right), own in zip(rules, standing):
        rule = (way, changes, right, left) if side == "right" else (way, changes, left, right)
        out = ""
        for sign in text + "#" if ended else text:
            own, more = naive_read(rule, own, sign)
            out = out + more
        behind.append(own)
        text = out
    return tuple(behind), text


def naive_standings(stock, order):
    """All standings that words come to, with a shortest word (as it is read) for each."""
    side, rules = order
    start = tuple((naive_fits(rule[3] if side == "right" else rule[2], "#"), "") for rule in rules)
    words = {start: ""}
    fresh = [start]
    while fresh:
        standing = fresh.pop(0)
        for sound, marks in stock:
            behind = naive_cascade(order, standing, sound, False)[0]
            if behind not in words:
                words[behind] = words[standing] + sound
                fresh.append(behind)
    return words


def naive_acting(order, standing, text, ended):
    """For each rule whether it changes, leaves out or puts in anything by reading the text (and the edge, if ended)."""
    side, rules = order
    acting = []
    for (way, changes, left, right), own in zip(rules, standing):
        rule = (way, changes, right, left) if side == "right" else (way, changes, left, right)
        acts = False
        out = ""
        for sign in text + "#" if ended else text:
            near, held = own
            fit = near and naive_fits(rule[3], sign)
            acts = acts or (fit and (changes[0][0] == "" or held in [a for a, b in changes]))
            own, more = naive_read(rule, own, sign)
            out = out + more
        acting.append(acts)
        text = out
    return acting


def naive_first(order):
    side, rules = order
    return tuple((naive_fits(rule[3] if side == "right" else rule[2], "#"), "") for rule in rules)


def reached(stock, first, lead):
    """All rows that are come to from the first one, rising; lead tells None where there is none behind a sound."""
    known = {first}
    fresh = [first]
    while fresh:
        row = fresh.pop()
        for sound, marks in stock:
            behind = lead(row, sound)
            if behind is not None and behind not in known:
                known.add(behind)
                fresh.append(behind)
    return tuple(sorted(known))


def naive_machine(stock, order):
    """A machine of the order that is not the least: a state for each standing, nothing put out early."""
    numbers = {standing: number for number, standing in enumerate(naive_standings(stock, order))}
    states = []
    for standing in numbers:
        steps = [naive_cascade(order, standing, sound, False) for sound, marks in stock]
        states.append((naive_cascade(order, standing, "", True)[1],
                       tuple((put, numbers[behind]) for behind, put in steps)))
    return ("", tuple(states))


def step_by(stock, machine, number, sound):
    return dict(zip([own for own, marks in stock], machine[1][number][1]))[sound]


def rest_of(one, other):
    """What each text has beyond the other one; ("?", "?") where neither is a beginning of the other."""
    if any(sign != second for sign, second in zip(one, other)):
        return "?", "?"
    return one[len(other):], other[len(one):]


def naive_table(stock, order, machine):
    """The paper of "machine": all rows that readings lead to."""
    def lead(row, sound):
        behind, put = naive_cascade(order, row[0], sound, False)
        own, to = step_by(stock, machine, row[1], sound)
        return (behind, to) + rest_of(row[2] + put, row[3] + own)
    return reached(stock, (naive_first(order), 0, "", machine[0]), lead)


def naive_form_rows(stock, side, machine, form):
    """The rows of "no source", and whether one of them ends with the form."""
    goal = form[::-1] if side == "right" else form

    def lead(row, sound):
        put, to = step_by(stock, machine, row[0], sound)
        return (to, row[1] + len(put)) if goal[:row[1]] + put == goal[:row[1] + len(put)] else None
    if goal[:len(machine[0])] != machine[0]:
        return (), False
    rows = reached(stock, (0, len(machine[0])), lead)
    return rows, any(goal[:many] + machine[1][number][0] == goal for number, many in rows)


def naive_common_rows(stock, side, machines, forms):
    """The rows of "no common", and whether one of them ends with both forms."""
    one, other = machines
    form, second = [form[::-1] if side == "right" else form for form in forms]

    def lead(row, sound):
        put, to = step_by(stock, one, row[0], sound)
        second_put, second_to = step_by(stock, other, row[1], sound)
        if form[row[2]:row[2] + len(put)] != put or second[row[3]:row[3] + len(second_put)] != second_put:
            return None
        return (to, second_to, row[2] + len(put), row[3] + len(second_put))
    if form[:len(one[0])] != one[0] or second[:len(other[0])] != other[0]:
        return (), False
    rows = reached(stock, (0, 0, len(one[0]), len(other[0])), lead)
    return rows, any(form[row[2]:] == one[1][row[0]][0] and second[row[3]:] == other[1][row[1]][0] for row in rows)


def naive_two_rows(stock, side, one, other):
    """The rows of "no way" and "no taking", and all (behind, alone) with which words end."""
    both, itself = (side, (one, other)), (side, (other,))

    def lead(row, sound):
        return (naive_cascade(both, row[0], sound, False)[0], naive_cascade(itself, row[1], sound, False)[0],
                row[2] or naive_acting(both, row[0], sound, False)[1],
                row[3] or naive_acting(itself, row[1], sound, False)[0])
    rows = reached(stock, (naive_first(both), naive_first(itself), False, False), lead)
    ends = {(row[2] or naive_acting(both, row[0], "", True)[1], row[3] or naive_acting(itself, row[1], "", True)[0])
            for row in rows}
    return rows, ends


def naive_rings(stock, side, machine, most):
    """All (ahead, ring, behind) of words of so many sounds where the ring leads back and puts out nothing."""
    words = all_words(stock, most)
    told = []
    for ahead, ring, behind in product(words, words[1:], words):
        read, turn = (behind[::-1], ring[::-1]) if side == "right" else (ahead, ring)
        state = 0
        for sound in read:
            state = step_by(stock, machine, state, sound)[1]
        at, puts = state, ""
        for sound in turn:
            put, at = step_by(stock, machine, at, sound)
            puts = puts + put
        if at == state and puts == "":
            told.append((ahead, ring, behind))
    return told


def naive_quarrel_paper(order, book):
    """The paper of "quarrel", None where some ordering tells the book."""
    side, rules = order
    numbers = []
    for row in permutations(rules):
        wrong = [at for at, (word, form) in enumerate(book) if naive_made((side, row), word) != form]
        numbers.append(wrong[0] if wrong else None)
    return None if None in numbers else tuple(numbers)


def naive_word_papers(stock, one, other, words):
    """All that is true of these words by two orders of one side, of the kinds that show something by a word."""
    told = []
    for word in words:
        walk = naive_walk(one, word)
        told.append((("makes", stock, one, word, walk[-1]), walk))
        if walk[-1] != naive_made(other, word):
            told.append((("parted", stock, one, other, word), None))
        for number in range(len(one[1])):
            if walk[number] != walk[number + 1]:
                told.append((("acts", stock, one, number, word), None))
        for first, second in product(one[1], other[1]):
            between = naive_made((one[0], (first,)), word)
            behind = naive_made((one[0], (second,)), between) != between
            alone = naive_made((one[0], (second,)), word) != word
            if behind != alone:
                told.append((("makes way" if behind else "takes", stock, one[0], first, second, word), None))
    return told


def naive_table_papers(stock, one, other, words):
    """All that is true by two orders of one side, of the kinds that are shown by tables, of forms among these words."""
    side = one[0]
    machine, second = naive_machine(stock, one), naive_machine(stock, other)
    table, second_table = naive_table(stock, one, machine), naive_table(stock, other, second)
    told = [(("machine", stock, one, machine), table)]
    found = naive_standings(stock, one)
    for number in range(len(one[1])):
        if not any(naive_acting(one, standing, sound, sound == "")[number]
                   for standing in found for sound in [sound for sound, marks in stock] + [""]):
            told.append((("never", stock, one, number), tuple(sorted(found))))
    for rule, last in product(one[1], other[1]):
        rows, ends = naive_two_rows(stock, side, rule, last)
        if (True, False) not in ends:
            told.append((("no way", stock, side, rule, last), rows))
        if (False, True) not in ends:
            told.append((("no taking", stock, side, rule, last), rows))
    for form in words:
        rows, ended = naive_form_rows(stock, side, machine, form)
        if not ended:
            told.append((("no source", stock, one, form), (machine, table, rows)))
    for form, last in product(words, words):
        rows, ended = naive_common_rows(stock, side, (machine, second), (form, last))
        if not ended:
            told.append((("no common", stock, one, other, form, last), (machine, table, second, second_table, rows)))
    for ahead, ring, behind in naive_rings(stock, side, machine, 1):
        form = naive_made(one, ahead + behind)
        told.append((("endless", stock, one, form, ahead, ring, behind), (machine, table)))
    for book in product(product(words, words), repeat=2):
        paper = naive_quarrel_paper(one, book)
        if paper is not None:
            told.append((("quarrel", stock, one, book), paper))
    return told


# Orders of four sounds at the limit of 600 standings.
JUST_600 = [
    ("left", (
        ("once", (("a", ""),), ("#",), ("#", "a", "d", "e")),
        ("along", (("", "e"),), ("a",), ("#",)),
        ("once", (("b", ""), ("d", "e")), None, ("#",)),
        ("along", (("a", "b"), ("b", "e"), ("e", "d")), ("#", "e"), ("#", "a", "b", "d")),
    )),
    ("right", (
        ("once", (("b", ""),), ("b",), ("d",)),
        ("along", (("a", "b"), ("b", "a"), ("e", "d")), ("#", "a", "b", "d", "e"), ("a", "d")),
        ("once", (("a", ""), ("e", "")), ("e",), ("b",)),
        ("once", (("e", "b"),), ("a", "b", "d"), ("#",)),
    )),
]

# The first two have 601, the third one far more.
OVER_600 = [
    ("left", (
        ("once", (("a", "b"), ("b", "d"), ("e", "a")), ("d",), ("#", "a", "b", "d", "e")),
        ("once", (("d", "e"), ("e", "d")), ("#", "a", "e"), ("a", "b")),
        ("along", (("a", "e"), ("b", "a"), ("d", "a"), ("e", "a")), ("#",), ("#", "b", "d")),
        ("once", (("a", "e"), ("b", "e"), ("d", "b"), ("e", "a")), ("#", "a", "b", "d"), ("#", "a", "b", "e")),
    )),
    ("right", (
        ("once", (("b", "e"), ("e", "a")), None, ("#", "b", "d", "e")),
        ("once", (("a", "b"), ("b", ""), ("d", "b"), ("e", "b")), ("#",), ("a", "b", "d", "e")),
        ("once", (("a", "d"), ("d", "e"), ("e", "a")), ("#", "b", "d", "e"), ("#", "a", "b", "d")),
        ("once", (("a", "b"), ("b", "d"), ("d", "b"), ("e", "b")), ("#", "a", "b", "d"), ("d",)),
    )),
    ("right", (
        ("once", (("a", "e"), ("b", "a"), ("e", "a")), ("a",), ("a", "b")),
        ("once", (("a", "e"), ("b", "a"), ("d", "")), ("#", "a", "b", "d", "e"), ("a", "e")),
        ("once", (("a", ""), ("b", "a"), ("d", "b"), ("e", "b")), ("#", "a", "b", "d", "e"), ("#", "d")),
        ("along", (("a", "d"), ("e", "")), ("b",), ("b", "d")),
    )),
]
