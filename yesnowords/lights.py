"""Light words: in how few places words of a kind are unlike, and papers that show it."""

from yesnowords.polys import word_of
from yesnowords.words import halves, plus, unlike, where


def least(kind):
    """In how many places unlike words of the kind are unlike at least."""
    many, most = kind
    return 1 << (many - most)


def is_near(kind, one, other):
    """Whether both words are unlike in less than half of least(kind) places."""
    return 2 * unlike(one, other) < least(kind)


def near(kind, word):
    """A word of the kind that is unlike this one in just least(kind) places."""
    many, most = kind
    # One term of most letters is yes where these all are, the others any: at least(kind) places.
    return plus(word, word_of(many, (tuple(range(most)),)))


def light_paper(kind, word):
    """A paper that a word of the kind, not 0, says yes at least(kind) places or more."""
    many, most = kind
    if most == 0:
        return ("all",)
    if most == many:
        return ("place", where(word)[0])
    low, high = halves(many, word)
    if low == high:
        return ("twice", light_paper((many - 1, most), low))
    return ("sum", light_paper((many - 1, most - 1), plus(low, high)))
