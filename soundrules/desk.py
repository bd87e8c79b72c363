"""The desk: rows that are said to it, and its answers."""

from soundrules.changing import walk
from soundrules.checker import holds
from soundrules.daughters import common
from soundrules.errors import NoCall, NoKept
from soundrules.papers import paper_acts, paper_alike, paper_machine, paper_makes
from soundrules.sources import source_at, sources
from soundrules.stocks import is_name, is_word
from soundrules.texts import read_order, show_order

NO_SOUNDS = "0"
FIGURES = "0123456789"

# What follows the first word of a row, for all rows but those that keep an order.
ROWS = {
    "show": ("name",),
    "make": ("name", "word"),
    "walk": ("name", "word"),
    "alike": ("name", "name"),
    "sources": ("name", "word"),
    "source": ("name", "word", "number"),
    "acts": ("name", "number"),
    "machine": ("name",),
    "common": ("name", "name", "word", "word"),
    "paper": (),
}
WITH_PAPERS = ("make", "alike", "acts", "machine")


def is_number_text(text):
    """Whether a text is one or two figures without a nought ahead, or 0 itself."""
    if not 1 <= len(text) <= 2 or not all([sign in FIGURES for sign in text]):
        return False
    return len(text) == 1 or text[0] != "0"


def is_part_text(stock, kind, text):
    """Whether a text is a part of this kind of a row."""
    if kind == "name":
        return is_name(text)
    if kind == "number":
        return is_number_text(text)
    return text == NO_SOUNDS or (text != "" and is_word(stock, text))


def are_part_texts(stock, kinds, texts):
    """Whether these texts are parts of just these kinds of a row."""
    if len(texts) != len(kinds):
        return False
    return all([is_part_text(stock, kind, text) for kind, text in zip(kinds, texts)])


def word_text(word):
    """A word as the desk tells it."""
    return NO_SOUNDS if word == "" else word


def many_text(told):
    """What the desk tells of sources."""
    return str(told[1]) if told[0] == "some" else told[0]


def shown_by(stock, first, parts):
    """Claim and paper of what is asked by a row with this first word, one of WITH_PAPERS."""
    if first == "make":
        return paper_makes(stock, parts[0], parts[1])
    if first == "alike":
        return paper_alike(stock, parts[0], parts[1])
    if first == "acts":
        return paper_acts(stock, parts[0], parts[1])
    return paper_machine(stock, parts[0])


def claim_text(claim):
    """The desk's answer where this claim is so."""
    if claim[0] == "machine":
        return str(len(claim[3][1]))
    if claim[0] in ("alike", "never"):
        return claim[0]
    # What makes, parted and acts claim ends with the word that is asked for.
    return word_text(claim[-1])


def answer_to(stock, first, parts):
    """The desk's answer to a row with this first word, one without a paper."""
    if first == "show":
        return show_order(parts[0])
    if first == "walk":
        return " ".join([word_text(word) for word in walk(parts[0], parts[1])])
    if first == "sources":
        return many_text(sources(stock, parts[0], parts[1]))
    if first == "source":
        return word_text(source_at(stock, parts[0], parts[1], parts[2]))
    return many_text(common(stock, parts[0], parts[1], parts[2], parts[3]))


class Desk:
    """A desk of one stock, which keeps orders by names."""

    def __init__(self, stock):
        self.stock = stock
        self.kept = {}
        self.last = None

    def say(self, row):
        """The answer to a row."""
        if not isinstance(row, str):
            raise NoCall(row)
        first, *texts = row.split(" ")
        if first == "order":
            return self.keep(row)
        if first not in ROWS or not are_part_texts(self.stock, ROWS[first], texts):
            raise NoCall(row)
        if first == "paper":
            return self.judge()
        parts = [self.thing_by(kind, text) for kind, text in zip(ROWS[first], texts)]
        if first in WITH_PAPERS:
            self.last = shown_by(self.stock, first, parts)
            return claim_text(self.last[0])
        return answer_to(self.stock, first, parts)

    def keep(self, row):
        """Keeps the order that a row tells."""
        first, blank, rest = row.partition(" ")
        name, blank, text = rest.partition(" ")
        if not is_name(name) or blank == "":
            raise NoCall(row)
        self.kept[name] = read_order(self.stock, text)
        return "ok"

    def thing_by(self, kind, text):
        """What a part of a row tells: the order kept by a name, a word or a number."""
        if kind == "number":
            return int(text)
        if kind == "word":
            return "" if text == NO_SOUNDS else text
        if text not in self.kept:
            raise NoKept(text)
        return self.kept[text]

    def judge(self):
        """What the checker says of the last answer that has a paper."""
        if self.last is None:
            return "none"
        claim, paper = self.last
        return "holds" if holds(claim, paper) else "no"
