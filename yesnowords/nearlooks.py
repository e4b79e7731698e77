"""A look whether rows of numbers are the steps that show how near a word is."""

from yesnowords.firsts import near_steps
from yesnowords.words import are_number_rows


def shows_near(many, word, thing):
    """Whether anything is the near steps of the word."""
    # Kinds first: True would count as 1 beside a number.
    return are_number_rows(thing) and thing == near_steps(many, word)
