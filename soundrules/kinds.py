"""What kind of thing a thing of any kind is."""


def is_whole(thing):
    """Whether a thing of any kind is a whole number: a truth is none."""
    return isinstance(thing, int) and not isinstance(thing, bool)
