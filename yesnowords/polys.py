"""Polynomials of yes-or-no letters: tuples of unlike terms in order."""

from yesnowords.steplooks import steps
from yesnowords.words import is_whole, says, where, word_at


def rises(things):
    """Whether each thing is less than the next one."""
    return all([things[at] < things[at + 1] for at in range(len(things) - 1)])


def term_order(term):
    """What terms are sorted by: fewer letters first, then as tuples rise."""
    return (len(term), term)


def is_term(many, thing):
    """Whether anything is a term of many letters."""
    if not isinstance(thing, tuple):
        return False
    # Kinds first: what isn't a number may not be compared.
    return all([is_whole(letter) and 0 <= letter < many for letter in thing]) and rises(thing)


def is_poly(many, thing):
    """Whether anything is a polynomial of many letters."""
    if not isinstance(thing, tuple) or not all([is_term(many, term) for term in thing]):
        return False
    return rises([term_order(term) for term in thing])


def degree(poly):
    """The most letters of a term, -1 where there is none."""
    return max([len(term) for term in poly], default=-1)


def stands_at(term, place):
    """Whether all letters of the term are yes at the place."""
    return all([says(place, letter) == 1 for letter in term])


def value(poly, place):
    """The polynomial's value, 0 or 1, at the place."""
    return len([term for term in poly if stands_at(term, place)]) % 2


def odd_terms(some):
    """The polynomial of those terms that are there an odd number of times."""
    odd = {}
    for term in some:
        odd[term] = not odd.get(term, False)
    return tuple(sorted([term for term in odd if odd[term]], key=term_order))


def poly_sum(one, other):
    """The polynomial whose values are those of both together."""
    return odd_terms(one + other)


def poly_product(one, other):
    """The polynomial whose values are those of both multiplied."""
    # A letter twice is that letter, so a product of terms has the letters of either.
    return odd_terms([tuple(sorted(set(left + right))) for left in one for right in other])


def word_of(many, poly):
    """The word of the polynomial's values."""
    # Each step done twice leaves the word as it was, and their order is free:
    # so the same steps lead from the terms back to the word.
    marks = word_at([word_at(term) for term in poly])
    return steps(many, marks)[many]


def poly_of(many, word):
    """The one polynomial with this word."""
    marks = steps(many, word)[many]
    return tuple(sorted([where(place) for place in where(marks)], key=term_order))
