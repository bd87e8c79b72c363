"""What several tests share: stocks, words, things of any kind, many orders, and the document in naive words."""

from itertools import product

ONE = (("a", ()),)
TWO = (("a", ("vowel",)), ("b", ()))
THREE = (("a", ("open", "vowel")), ("d", ("stop",)), ("e", ("vowel",)))
FOUR = (("a", ()), ("b", ()), ("d", ()), ("e", ()))


def deep(thing, many):
    for turn in range(many):
        thing = (thing,) if turn % 3 == 0 else [thing] if turn % 3 == 1 else {"k": thing}
    return thing


# None of these is a name, a stock, a word, a rule or an order of any of the stocks above.
ODD_THINGS = [
    None, True, False, 0, 1, -1, 12, 10 ** 30, "A", "a ", " ", "0", "#", "~", "a\n", "a#", "once a>b / * _ *",
    [], {}, [()], ((),), (None,), (None, None), (1, 2), (True, False), [1], {"a": 1}, {1: "a"}, {True: None},
    ["a"], [("a", ())], (["a", ()],), {"a": ()}, ("a",), ("a", "b"), (("a", "b"),), ("left",), ["left", ()],
    ("left", []), ("left", {}), ("left", None), ("up", ()), (True, ()), ((), "left"), ["once", (), None, None],
    ("once", (), None, None), deep("a", 11), deep((), 11), deep(None, 12), deep(7, 12),
]


def rule(way, changes, left=None, right=None):
    """A rule by its changes as a text ("a>b e>", nothing for no sound) and its signs as texts."""
    pairs = tuple(tuple(change.split(">")) for change in changes.split(" "))
    return (way, pairs, left and tuple(left), right and tuple(right))


def all_words(stock, most):
    sounds = [sound for sound, marks in stock]
    return ["".join(signs) for many in range(most + 1) for signs in product(sounds, repeat=many)]


class Dice:
    """A row of numbers that looks thrown but is the same on every machine."""

    def __init__(self, seed):
        self.seed = seed

    def below(self, many):
        self.seed = (self.seed * 6364136223846793005 + 1442695040888963407) % 2 ** 64
        return (self.seed >> 33) % many

    def one_of(self, things):
        return things[self.below(len(things))]

    def some_of(self, things):
        """One or more of these, as they stand."""
        picked = [thing for thing in things if self.below(2)]
        return tuple(picked) if picked else (self.one_of(things),)


def thrown_rule(dice, sounds):
    way = dice.one_of(["once", "along"])
    if dice.below(4) == 0:
        changes = (("", dice.one_of(sounds)),)
    else:
        changes = tuple((old, dice.one_of([new for new in sounds + [""] if new != old]))
                        for old in dice.some_of(sounds))
    signs = ["#"] + sounds
    left = None if dice.below(4) == 0 else dice.some_of(signs)
    right = None if dice.below(4) == 0 else dice.some_of(signs)
    return (way, changes, left, right)


def many_orders(stock, most_rules, many, seed):
    """Many orders of the stock, of both sides, with none to most_rules rules."""
    dice = Dice(seed)
    sounds = [sound for sound, marks in stock]
    orders = [("left", ()), ("right", ())]
    for turn in range(many):
        rules = tuple(thrown_rule(dice, sounds) for at in range(1 + dice.below(most_rules)))
        orders.append((("left", "right")[turn % 2], rules))
    return orders


def thrown_word(dice, stock, many):
    return "".join(dice.one_of([sound for sound, marks in stock]) for at in range(many))


def naive_fits(signs, sign):
    return True if signs is None else any(own == sign for own in signs)


def naive_from_left(rule, word):
    """[6] and [7], said once more in another way than the package says them."""
    way, changes, left, right = rule
    if changes[0][0] == "":
        edged = "#" + word + "#"
        gaps = [changes[0][1] if naive_fits(left, edged[at]) and naive_fits(right, edged[at + 1]) else ""
                for at in range(len(edged) - 1)]
        return "".join(gap + sound for gap, sound in zip(gaps, list(word) + [""]))
    made = ""
    for at in range(len(word)):
        so_far = word[:at] if way == "once" else made
        ahead = ("#" + so_far)[-1]
        behind = (word[at + 1:] + "#")[0]
        new = [b for a, b in changes if a == word[at] and naive_fits(left, ahead) and naive_fits(right, behind)]
        made = made + (new[0] if new else word[at])
    return made


def naive_walk(order, word):
    """[8]: of the side right all is done to the word turned about, and each word turned about again."""
    side, rules = order
    if side == "right":
        swapped = tuple((way, changes, right, left) for way, changes, left, right in rules)
        return tuple(each[::-1] for each in naive_walk(("left", swapped), word[::-1]))
    words = [word]
    for rule in rules:
        words.append(naive_from_left(rule, words[-1]))
    return tuple(words)


def naive_made(order, word):
    return naive_walk(order, word)[-1]


def naive_read(rule, standing, sign):
    """[9] for one rule: its standing behind the sign, and what it puts out."""
    way, changes, left, right = rule
    near, held = standing
    acts = near is True and naive_fits(right, sign)
    if changes[0][0] == "":
        return (naive_fits(left, sign), sign), held + changes[0][1] if acts else held
    if not held:
        return (near, sign), ""
    out = held
    for a, b in changes:
        if a == held and acts:
            out = b
    if way == "once":
        return (naive_fits(left, held), sign), out
    return (near if out == "" else naive_fits(left, out), sign), out


def naive_cascade(order, standing, text, ended):
    """[9] for an order: its standing behind the text (and the edge, if ended), and what is put out."""
    side, rules = order
    behind = []
    for (way, changes, left, right), own in zip(rules, standing):
        rule = (way, changes, right, left) if side == "right" else (way, changes, left, right)
        out = ""
        for sign in text + "#" if ended else text:
            own, more = naive_read(rule, own, sign)
            out = out + more
        behind.append(own)
        text = out
    return tuple(behind), text


def naive_standings(stock, order):
    """All standings that words come to, with a shortest word (as it is read) for each."""
    side, rules = order
    start = tuple((naive_fits(rule[3] if side == "right" else rule[2], "#"), "") for rule in rules)
    words = {start: ""}
    fresh = [start]
    while fresh:
        standing = fresh.pop(0)
        for sound, marks in stock:
            behind = naive_cascade(order, standing, sound, False)[0]
            if behind not in words:
                words[behind] = words[standing] + sound
                fresh.append(behind)
    return words


# Orders of four sounds at the limit of 600 standings.
JUST_600 = [
    ("left", (
        ("once", (("a", ""),), ("#",), ("#", "a", "d", "e")),
        ("along", (("", "e"),), ("a",), ("#",)),
        ("once", (("b", ""), ("d", "e")), None, ("#",)),
        ("along", (("a", "b"), ("b", "e"), ("e", "d")), ("#", "e"), ("#", "a", "b", "d")),
    )),
    ("right", (
        ("once", (("b", ""),), ("b",), ("d",)),
        ("along", (("a", "b"), ("b", "a"), ("e", "d")), ("#", "a", "b", "d", "e"), ("a", "d")),
        ("once", (("a", ""), ("e", "")), ("e",), ("b",)),
        ("once", (("e", "b"),), ("a", "b", "d"), ("#",)),
    )),
]

# The first two have 601, the third one far more.
OVER_600 = [
    ("left", (
        ("once", (("a", "b"), ("b", "d"), ("e", "a")), ("d",), ("#", "a", "b", "d", "e")),
        ("once", (("d", "e"), ("e", "d")), ("#", "a", "e"), ("a", "b")),
        ("along", (("a", "e"), ("b", "a"), ("d", "a"), ("e", "a")), ("#",), ("#", "b", "d")),
        ("once", (("a", "e"), ("b", "e"), ("d", "b"), ("e", "a")), ("#", "a", "b", "d"), ("#", "a", "b", "e")),
    )),
    ("right", (
        ("once", (("b", "e"), ("e", "a")), None, ("#", "b", "d", "e")),
        ("once", (("a", "b"), ("b", ""), ("d", "b"), ("e", "b")), ("#",), ("a", "b", "d", "e")),
        ("once", (("a", "d"), ("d", "e"), ("e", "a")), ("#", "b", "d", "e"), ("#", "a", "b", "d")),
        ("once", (("a", "b"), ("b", "d"), ("d", "b"), ("e", "b")), ("#", "a", "b", "d"), ("d",)),
    )),
    ("right", (
        ("once", (("a", "e"), ("b", "a"), ("e", "a")), ("a",), ("a", "b")),
        ("once", (("a", "e"), ("b", "a"), ("d", "")), ("#", "a", "b", "d", "e"), ("a", "e")),
        ("once", (("a", ""), ("b", "a"), ("d", "b"), ("e", "b")), ("#", "a", "b", "d", "e"), ("#", "d")),
        ("along", (("a", "d"), ("e", "")), ("b",), ("b", "d")),
    )),
]
