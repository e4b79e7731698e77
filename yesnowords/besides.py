"""The kind beside a kind: all words that are even with each of its words, and checks of them."""

from yesnowords.kinds import term_words
from yesnowords.words import is_even


def beside(kind):
    """The kind of all words that are even with each word of this one, None where that is 0 alone."""
    many, most = kind
    return None if most == many else (many, many - most - 1)


def checks(kind):
    """The words of the single terms of the kind beside, in order."""
    other = beside(kind)
    return () if other is None else term_words(other)


def told_by(kind, word):
    """For each check 0 where the word is even with it, else 1."""
    return tuple([0 if is_even(word, check) else 1 for check in checks(kind)])


def odd_check(kind, word):
    """The first check with which the word isn't even, None of a word of the kind."""
    for check in checks(kind):
        if not is_even(word, check):
            return check
    return None
