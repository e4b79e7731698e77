"""Bases: of all sums of some words, the one tuple of words that tells them."""

from yesnowords.words import plus, says, word_at


def top(word):
    """The greatest place at which a word, not 0, says yes."""
    return word.bit_length() - 1


def without_tops(rows, word):
    """The word plus those rows at whose tops it says yes; no row says yes at another one's top."""
    left = word
    for row in rows:
        if says(word, top(row)) == 1:
            left = plus(left, row)
    return left


def base_of(some):
    """The one base with the same sums as these words."""
    rows = []
    for word in some:
        left = without_tops(rows, word)
        if left != 0:
            # What is left has no row's top, so each row keeps its own and loses that of what is left.
            rows = [without_tops([left], row) for row in rows] + [left]
    return tuple(sorted(rows))


def made_of(base, word):
    """The numbers of those words of the base that come to the word, None where none do."""
    if without_tops(base, word) != 0:
        return None
    return tuple([at for at, row in enumerate(base) if says(word, top(row)) == 1])


def no_tops(base, size):
    """The places below size that are the top of none of the base."""
    tops = [top(row) for row in base]
    return [place for place in range(size) if place not in tops]


def even_at(base, place):
    """The word that is even with each of the base, and says yes at this place and else at tops alone."""
    # A row's own top can be set by itself, for no other row says yes there.
    return word_at([place] + [top(row) for row in base if says(row, place) == 1])


def even_with(many, some):
    """The base of all words of many letters that are even with each of some."""
    base = base_of(some)
    return base_of([even_at(base, place) for place in no_tops(base, 1 << many)])
