"""Kinds: all words of many letters whose polynomial has at most most letters at once."""

from yesnowords.errors import NotIn
from yesnowords.polys import degree, poly_of, word_of
from yesnowords.words import is_row, is_whole


def is_kind(thing):
    """Whether anything is a kind."""
    if not is_row(thing, 2):
        return False
    many, most = thing
    # Kinds of things first: what isn't a number may not be compared.
    return is_whole(many) and is_whole(most) and 1 <= many <= 6 and 0 <= most <= many


def longer_terms(many, some):
    """All terms of one letter more than these, which are all of as many letters, in order."""
    return [term + (letter,) for term in some for letter in range(max(term, default=-1) + 1, many)]


def terms(kind):
    """All terms of at most most letters, in order."""
    many, most = kind
    row = [()]
    told = [()]
    for size in range(most):
        row = longer_terms(many, row)
        told += row
    return tuple(told)


def term_words(kind):
    """The words of the single terms of the kind, in order."""
    return tuple([word_of(kind[0], (term,)) for term in terms(kind)])


def how_many(kind):
    """How many words are of the kind."""
    return 1 << len(terms(kind))


def is_in(kind, word):
    """Whether the word is of the kind."""
    many, most = kind
    return degree(poly_of(many, word)) <= most


def word_with(kind, digits):
    """The word of the polynomial of those terms of the kind whose digit is 1."""
    chosen = tuple([term for term, digit in zip(terms(kind), digits) if digit == 1])
    return word_of(kind[0], chosen)


def digits_of(kind, word):
    """The digits with which the word is told; NotIn where it isn't of the kind."""
    many, most = kind
    poly = poly_of(many, word)
    if degree(poly) > most:
        raise NotIn(f"the word {word} is not of the kind of {many} letters, {most} at most at once")
    return tuple([1 if term in poly else 0 for term in terms(kind)])


def is_within(one, other):
    """Whether all words of the one kind are of the other."""
    return one[0] == other[0] and one[1] <= other[1]
