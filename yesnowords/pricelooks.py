"""A look whether a price, a word and a table are the least price of a kind, told so."""

from yesnowords.errors import TooMany
from yesnowords.kinds import is_in
from yesnowords.prices import least_sums, price_table
from yesnowords.words import are_number_rows, is_row, is_whole, is_word, where


def is_priced(many, thing):
    """Whether anything is a whole number, a word of many letters and rows of whole numbers."""
    return is_row(thing, 3) and is_whole(thing[0]) and is_word(many, thing[1]) and are_number_rows(thing[2])


def price_of(prices, word):
    """The sum of prices of the word's yes places."""
    return sum([prices[place] for place in where(word)])


def shows_price(kind, prices, thing):
    """Whether anything is the least price of a word of the kind, such a word, and the table of all least sums."""
    # Kinds of things first: True would count as 1 beside a number.
    if not is_priced(kind[0], thing):
        return False
    price, word, table = thing
    if not is_in(kind, word) or price_of(prices, word) != price:
        return False
    try:
        sums = least_sums(kind, prices)
    except TooMany:
        return False
    return price == sums[0][0] and table == price_table(sums)
