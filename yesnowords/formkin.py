"""Turnings from one word of degree 2 at most to another of the same form."""

from yesnowords.forms import form_of
from yesnowords.turnings import back, one_by_one


def turning_to(many, one, other):
    """A turning by which the one turned is the other, None where there is none; NotIn where a degree is above 2."""
    turning, form = form_of(many, one)
    other_turning, other_form = form_of(many, other)
    if form != other_form:
        return None
    # At each place: back to where the form's word says the same, and from there to where the one says it.
    return one_by_one(back(other_turning), turning)
