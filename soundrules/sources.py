"""Where a form came from: how many sources it has, and each by its number."""

from soundrules.changing import made
from soundrules.errors import NoNumber, NoSource
from soundrules.things import is_whole
from soundrules.machines import least_machine
from soundrules.nets import counted, form_net, words_told
from soundrules.numbering import number_in, word_at
from soundrules.stocks import is_word


def source_net(stock, order, form):
    """The net of all sources of a form."""
    return form_net(stock, least_machine(stock, order), order[0], form)


def is_source(stock, order, form, thing):
    """Whether a thing of any kind is a source of the form."""
    return is_word(stock, thing) and made(order, thing) == form


def need_number(net, thing):
    """Refuses a thing of any kind that is not the number of a word of the net."""
    if not is_whole(thing) or thing < 0 or net == []:
        raise NoNumber("there is no such number")
    many_from = counted(net)
    if 0 in many_from and thing >= many_from[0]:
        raise NoNumber("there are not so many")


def sources(stock, order, form):
    """What is told of the sources of a form: ("none",), ("some", many) or ("endless", ahead, ring, behind)."""
    return words_told(stock, order[0], source_net(stock, order, form))


def source_at(stock, order, form, number):
    """The source of a form that has this number."""
    net = source_net(stock, order, form)
    need_number(net, number)
    return word_at(stock, order[0], net, number)


def number_of(stock, order, form, word):
    """The number of a source of a form."""
    if not is_source(stock, order, form, word):
        raise NoSource("this is no source of the form")
    return number_in(stock, order[0], source_net(stock, order, form), word)
