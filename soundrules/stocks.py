"""Names, sounds, stocks and words."""

EDGE = "#"
LETTERS = "abcdefghijklmnopqrstuvwxyz"
MOST_LETTERS = 8
MOST_SOUNDS = 4
MOST_MARKS = 4


def is_name(thing):
    """Whether a thing of any kind is a name."""
    if not isinstance(thing, str):
        return False
    return 1 <= len(thing) <= MOST_LETTERS and all([sign in LETTERS for sign in thing])


def is_sound(thing):
    """Whether a thing of any kind is a sound."""
    return is_name(thing) and len(thing) == 1


def rises(things):
    """Whether each of these is more than the one ahead of it, so that none is there twice."""
    return all([things[at] < things[at + 1] for at in range(len(things) - 1)])


def is_pair(thing):
    """Whether a thing of any kind is a tuple of two."""
    return isinstance(thing, tuple) and len(thing) == 2


def are_marks(thing):
    """Whether a thing of any kind is what a stock may have as the marks of a sound."""
    if not isinstance(thing, tuple) or len(thing) > MOST_MARKS:
        return False
    return all([is_name(mark) for mark in thing]) and rises(thing)


def is_marked_sound(thing):
    """Whether a thing of any kind is a pair of a sound and its marks."""
    return is_pair(thing) and is_sound(thing[0]) and are_marks(thing[1])


def is_stock(thing):
    """Whether a thing of any kind is a stock."""
    if not isinstance(thing, tuple) or not 1 <= len(thing) <= MOST_SOUNDS:
        return False
    return all([is_marked_sound(row) for row in thing]) and rises(sounds_of(thing))


def is_word(stock, thing):
    """Whether a thing of any kind is a word of the stock."""
    if not isinstance(thing, str):
        return False
    sounds = sounds_of(stock)
    return all([sign in sounds for sign in thing])


def sounds_of(stock):
    """All sounds of the stock, rising."""
    return tuple([sound for sound, marks in stock])


def sounds_by(stock, marks):
    """All sounds of the stock that have all of these marks, rising."""
    return tuple([sound for sound, own in stock if all([mark in own for mark in marks])])
