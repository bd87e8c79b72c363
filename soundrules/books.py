"""Books: which orderings tell them, what bars them, and how few rules do."""

from soundrules.changing import changed, made
from soundrules.orderings import all_orderings, laid


def pairs_told(order, book):
    """For each pair of the book whether the order makes of its word its form."""
    return [made(order, word) == form for word, form in book]


def is_quarrel(tellings, numbers):
    """Whether none of several rows of truths is True at all of these numbers."""
    return not any([all([telling[number] for number in numbers]) for telling in tellings])


def quarrel(tellings, many):
    """A row of numbers of pairs that are not told together, each of which is needed, where all together are not."""
    numbers = list(range(many))
    for number in range(many):
        others = [each for each in numbers if each != number]
        # What is kept here stays needed when more is left out later: fewer pairs are told more easily.
        if is_quarrel(tellings, others):
            numbers = others
    return tuple(numbers)


def told_by(order, book):
    """What tells the book: ("told", orderings), all of them, or ("quarrel", numbers) of pairs that bar it."""
    orderings = all_orderings(len(order[1]))
    tellings = [pairs_told(laid(order, ordering), book) for ordering in orderings]
    telling_all = [ordering for ordering, telling in zip(orderings, tellings) if all(telling)]
    if telling_all != []:
        return ("told", tuple(telling_all))
    return ("quarrel", quarrel(tellings, len(book)))


def fewest(side, rules, book):
    """The fewest rules that, laid in some order, tell the book: the least row of their numbers, or None."""
    forms = [form for word, form in book]
    rows = [((), [word for word, form in book])]
    # Each round lays one rule more, and the rows stay rising.
    while rows != []:
        for row, words in rows:
            if words == forms:
                return row
        rows = [(row + (number,), [changed(side, rule, word) for word in words])
                for row, words in rows for number, rule in enumerate(rules) if number not in row]
    return None
