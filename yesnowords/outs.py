"""What isn't of a kind, shown by a flat; and how many words of a kind are the lightest."""

from yesnowords.flats import flat_word, flats_along, how_many_flats
from yesnowords.kinds import terms
from yesnowords.words import is_even


def is_odd_on(word, flat):
    """Whether the word says yes at an odd number of the flat's places."""
    return not is_even(word, flat_word(flat))


def letter_flats(many, size):
    """All flats of so many directions, each of which is that of a single letter."""
    some = [term for term in terms((many, size)) if len(term) == size]
    rows = [flats_along(many, tuple([1 << letter for letter in term])) for term in some]
    return [flat for row in rows for flat in row]


def odd_flat(kind, word):
    """None of a word of the kind, else a flat that shows that it isn't."""
    many, most = kind
    # A term stands in the polynomial where the word is odd on all places with no other letter yes. With more
    # than most letters these are parted into such flats as are gone through, so one of them is odd then.
    for flat in letter_flats(many, most + 1):
        if is_odd_on(word, flat):
            return flat
    return None


def lightest(kind):
    """How many words of the kind say yes at just least(kind) places."""
    many, most = kind
    return how_many_flats(many, many - most)
