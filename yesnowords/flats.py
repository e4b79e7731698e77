"""Flats: all places that come of one place by some directions."""

from yesnowords.bases import base_of, without_tops
from yesnowords.words import is_place, is_row, plus, where, word_at


def are_directions(many, thing):
    """Whether anything is the directions of a flat of many letters."""
    if not isinstance(thing, tuple) or not all([is_place(many, direction) for direction in thing]):
        return False
    # Of all with the same sums just one is a base: so a base is its own.
    return thing == base_of(thing)


def is_flat(many, thing):
    """Whether anything is a flat of many letters."""
    if not is_row(thing, 2):
        return False
    place, directions = thing
    return is_place(many, place) and are_directions(many, directions) and without_tops(directions, place) == place


def flat_places(flat):
    """The rising tuple of the flat's places."""
    place, directions = flat
    told = [place]
    for direction in directions:
        told = told + [plus(one, direction) for one in told]
    return tuple(sorted(told))


def flat_word(flat):
    """The word that says yes at just the flat's places."""
    return word_at(flat_places(flat))


def flat_of(many, word):
    """The flat whose word it is, None where there is none."""
    if word == 0:
        return None
    places = where(word)
    directions = base_of([plus(places[0], place) for place in places])
    # The least place of a flat is that with no direction's top.
    flat = (places[0], directions)
    return flat if flat_word(flat) == word else None


def flats_along(many, directions):
    """The rising tuple of all flats of many letters with these directions."""
    places = [place for place in range(1 << many) if without_tops(directions, place) == place]
    return tuple([(place, directions) for place in places])


def how_many_flats(many, d):
    """How many flats of many letters have d directions."""
    above = 1
    below = 1
    # Above: all rows of d places, each beyond the sums of those ahead. Below: how many of them have the same sums.
    for at in range(d):
        above *= (1 << many) - (1 << at)
        below *= (1 << d) - (1 << at)
    # Each of the 2 ** d places of a flat could be the one that it comes of.
    return (above << many) // (below << d)
