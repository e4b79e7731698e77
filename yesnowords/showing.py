"""Texts of polynomials, words, and words of which places are lost."""

from yesnowords.words import says

SIGNS = "abcdef"


def term_text(term):
    """The signs of the term's letters, 1 of none."""
    return "1" if term == () else "".join([SIGNS[letter] for letter in term])


def poly_text(poly):
    """The terms' texts from the last to the first, 0 of none."""
    return "0" if poly == () else " + ".join([term_text(term) for term in reversed(poly)])


def heard_text(many, word, lost):
    """For each place ? where it is lost, else 0 or 1 as the word says."""
    return "".join(["?" if place in lost else str(says(word, place)) for place in range(1 << many)])


def word_text(many, word):
    """For each place 0 or 1 as the word says."""
    return heard_text(many, word, ())
