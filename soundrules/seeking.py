"""Words sought by breadth, so that the first one found is a shortest one."""

from soundrules.stocks import sounds_of


def as_it_stands(side, read):
    """A row of sounds as it stands in the word, of one as it is read from this side; and the other way about."""
    return read[::-1] if side == "right" else read


def shortest_word(stock, side, first, lead, shows):
    """A shortest word, as it stands, that shows what is sought, or None.

    Here lead(place, sound) tells the place where the sound leads to, None where no word goes on so; shows(place)
    tells whether a word that comes there is one that is sought. Of the words that come to one place only the first
    is gone on with.
    """
    if shows(first):
        return ""
    places = [first]
    words = [""]
    known = {first: True}
    at = 0
    while at < len(places):
        for sound in sounds_of(stock):
            place = lead(places[at], sound)
            if place is None or place in known:
                continue
            if shows(place):
                return as_it_stands(side, words[at] + sound)
            known[place] = True
            places.append(place)
            words.append(words[at] + sound)
        at += 1
    return None
