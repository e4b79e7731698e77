"""Lost places: what words of a kind fit what was heard at the others."""

from yesnowords.bases import base_of, without_tops
from yesnowords.errors import NoFit, TooFar
from yesnowords.halving import by_halves
from yesnowords.kinds import term_words
from yesnowords.lights import least
from yesnowords.words import against, halves, joined, plus, times, unlike, word_at


def fill(kind, heard, lost):
    """(word, base): the least word of the kind that fits, and the base of what others add to it; NoFit where none."""
    many = kind[0]
    known = against(many, word_at(lost))
    # Above each word stands what it says at the known places. So the tops of a base lie there as far as they can,
    # and its words with nothing above say yes at lost places alone.
    rows = base_of([joined(many + 1, word, times(word, known)) for word in term_words(kind)])
    word, missed = halves(many + 1, without_tops(rows, joined(many + 1, 0, times(heard, known))))
    if missed != 0:
        raise NoFit(f"no word of the kind says what {heard} says but at {lost}")
    pairs = [halves(many + 1, row) for row in rows]
    return (word, tuple([low for low, high in pairs if high == 0]))


def mend_lost(kind, heard, lost):
    """The word of the kind by which twice the false places and the lost ones are less than least(kind), else TooFar."""
    many = kind[0]
    away = word_at(lost)
    known = against(many, away)
    kept = times(heard, known)
    # At half of the lost places, or fewer, the word is unlike all no there, or all yes.
    for tried in (kept, plus(kept, away)):
        word = by_halves(kind, tried)
        if word is not None and 2 * unlike(times(word, known), kept) + len(lost) < least(kind):
            return word
    raise TooFar(f"no word of the kind is near enough to {heard} but at {lost}")
