"""Mending by votes: which terms stand in the polynomial of what was said, by more than half of many sums."""

from yesnowords.errors import NoMost, TooFar
from yesnowords.kinds import terms
from yesnowords.lights import is_near
from yesnowords.polys import word_of
from yesnowords.words import plus, says, times, word_at


def votes(many, heard, term):
    """What heard says together for each setting of the letters that aren't in the term, by rising places."""
    sums = heard
    for letter in term:
        # Where this letter is no, both places that it alone tells apart are now summed.
        sums = plus(sums, sums >> (1 << letter))
    letters = word_at(term)
    return tuple([says(sums, place) for place in range(1 << many) if times(place, letters) == 0])


def voted_terms(kind):
    """The terms of the kind, those of most letters first, of as many in order."""
    return sorted(terms(kind), key=lambda term: -len(term))


def chosen_above(rows, size):
    """The terms of more than so many letters of which more votes are yes."""
    return tuple([term for term, no, yes in rows if yes > no and len(term) > size])


def vote_row(many, heard, rows, term):
    """(term, no, yes) of what is left behind the rows, which hold those of all terms of more letters."""
    left = plus(heard, word_of(many, chosen_above(rows, len(term))))
    cast = votes(many, left, term)
    return (term, cast.count(0), cast.count(1))


def word_by_votes(many, rows):
    """The word of all chosen terms together."""
    return word_of(many, chosen_above(rows, -1))


def mend(kind, heard):
    """(word, rows): the word of the kind that heard is mended to, and the votes; NoMost or TooFar where it isn't."""
    many = kind[0]
    rows = []
    for term in voted_terms(kind):
        row = vote_row(many, heard, rows, term)
        if row[1] == row[2]:
            raise NoMost(term)
        rows.append(row)
    word = word_by_votes(many, rows)
    if not is_near(kind, word, heard):
        raise TooFar(f"the votes tell {word}, which is unlike {heard} in too many places")
    return (word, tuple(rows))
