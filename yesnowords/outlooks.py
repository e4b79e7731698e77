"""A look whether a flat shows that a word isn't of a kind."""

from yesnowords.flats import is_flat
from yesnowords.outs import is_odd_on


def shows_out(kind, word, thing):
    """Whether anything is a flat of most + 1 directions at an odd number of whose places the word says yes."""
    many, most = kind
    return is_flat(many, thing) and len(thing[1]) == most + 1 and is_odd_on(word, thing)
