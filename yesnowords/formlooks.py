"""A look whether a word is turned to a form."""

from yesnowords.forms import form_poly, is_form
from yesnowords.polys import word_of
from yesnowords.turnings import is_turning, turned
from yesnowords.words import is_row


def shows_form(many, word, thing):
    """Whether anything is a turning and a form so that the word so turned is the form's."""
    if not is_row(thing, 2) or not is_turning(many, thing[0]) or not is_form(many, thing[1]):
        return False
    turning, form = thing
    return turned(many, turning, word) == word_of(many, form_poly(form))
