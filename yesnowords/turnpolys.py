"""Polynomials of turned words, and turnings that lead from one flat to another."""

from yesnowords.bases import no_tops
from yesnowords.polys import poly_of, word_of
from yesnowords.turnings import back, one_by_one, turned


def turned_poly(many, turning, poly):
    """The polynomial of the word so turned."""
    return poly_of(many, turned(many, turning, word_of(many, poly)))


def opening(many, flat):
    """A turning that sends the places whose yes letters are among the first ones to those of the flat."""
    place, directions = flat
    # Beside the directions, the letters that are no direction's top make up as many images as are asked.
    others = tuple([1 << letter for letter in no_tops(directions, many)])
    return (directions + others, place)


def leading(many, flat, other):
    """A turning that sends the places of flat to those of other, which has as many directions."""
    return one_by_one(back(opening(many, flat)), opening(many, other))
