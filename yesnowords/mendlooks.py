"""A look whether a word and rows of votes are what a heard word is mended to."""

from yesnowords.lights import is_near
from yesnowords.mending import vote_row, voted_terms, word_by_votes
from yesnowords.polys import is_term
from yesnowords.words import is_row, is_whole, is_word


def is_vote_row(many, thing):
    """Whether anything is a term and two whole numbers."""
    return is_row(thing, 3) and is_term(many, thing[0]) and is_whole(thing[1]) and is_whole(thing[2])


def shows_rows(kind, heard, thing):
    """Whether anything is all rows of votes of heard, none of them with as many yes as no."""
    many = kind[0]
    if not isinstance(thing, tuple) or not all([is_vote_row(many, row) for row in thing]):
        return False
    if [term for term, no, yes in thing] != voted_terms(kind):
        return False
    for row in thing:
        if row[1] == row[2] or row != vote_row(many, heard, thing, row[0]):
            return False
    return True


def shows_mended(kind, heard, thing):
    """Whether anything is what mend tells of heard."""
    if not is_row(thing, 2) or not is_word(kind[0], thing[0]) or not shows_rows(kind, heard, thing[1]):
        return False
    word, rows = thing
    return word == word_by_votes(kind[0], rows) and is_near(kind, word, heard)
