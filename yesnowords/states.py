"""States: what the checks tell of a word of a kind by its first places alone."""

from yesnowords.bases import base_of
from yesnowords.besides import checks
from yesnowords.errors import TooMany
from yesnowords.flats import flat_places
from yesnowords.kinds import term_words
from yesnowords.words import plus, says, word_at

# 2 ** 7 is 128: so many states are gone through at most.
MOST_DIGITS = 7


def columns(kind):
    """For each place the number whose digits are what the checks say there."""
    rows = checks(kind)
    return [word_at([at for at, check in enumerate(rows) if says(check, place) == 1]) for place in range(1 << kind[0])]


def word_states(lines, word):
    """The word's state at each t, by the columns of all places."""
    told = [0]
    for place, column in enumerate(lines):
        told.append(plus(told[place], column) if says(word, place) == 1 else told[place])
    return told


def state_bases(kind):
    """For each t the base of the states there: those of sums of words are sums of theirs."""
    lines = columns(kind)
    rows = [word_states(lines, word) for word in term_words(kind)]
    return [base_of([row[t] for row in rows]) for t in range((1 << kind[0]) + 1)]


def states(kind):
    """For each t which power of 2 tells how many states there are."""
    return tuple([len(base) for base in state_bases(kind)])


def all_states(kind):
    """For each t the rising tuple of the states of all words of the kind; TooMany where some t has more than 128."""
    bases = state_bases(kind)
    if max([len(base) for base in bases]) > MOST_DIGITS:
        raise TooMany(f"words of the kind {kind} have more than 128 states")
    # All sums of a base are the places of the flat that comes of 0 by it.
    return [flat_places((0, base)) for base in bases]


def states_at(kind, t):
    """The rising tuple of the states at t of all words of the kind; TooMany where some t has more than 128."""
    rows = all_states(kind)
    # Ahead of all places and behind them all each word has the state 0, as at either end.
    return rows[max(0, min(t, len(rows) - 1))]
