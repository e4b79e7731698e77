"""First kinds: how near a word is to each sum of single letters, and which of these are the nearest."""

from yesnowords.polys import word_of
from yesnowords.words import against, says, where


def near_stepped(row, letter):
    """The row behind this one, by the letter: sums where it is no, what is left where it is yes."""
    aside = 1 << letter
    return tuple([
        row[place] + row[place + aside] if says(place, letter) == 0 else row[place - aside] - row[place]
        for place in range(len(row))
    ])


def near_steps(many, word):
    """A row of 1 where the word says no and -1 where yes, and the many rows behind it, each by one more letter."""
    rows = [tuple([1 - 2 * says(word, place) for place in range(1 << many)])]
    for letter in range(many):
        rows.append(near_stepped(rows[letter], letter))
    return tuple(rows)


def agreements(many, word):
    """For each place how much oftener the word is like the sum of its yes letters than unlike it."""
    return near_steps(many, word)[many]


def letter_sum(many, place):
    """The word of the sum of those letters that are yes at the place."""
    return word_of(many, tuple([(letter,) for letter in where(place)]))


def far_rows(many, word):
    """(far, other) for all words of the kind (many, 1): in how many places the other is unlike this word."""
    rows = []
    for place, more in enumerate(agreements(many, word)):
        other = letter_sum(many, place)
        far = ((1 << many) - more) // 2
        # Where the sum is like the word, the one against it is unlike.
        rows += [(far, other), ((1 << many) - far, against(many, other))]
    return rows


def within(many, word, far):
    """The rising tuple of all words of the kind (many, 1) that are unlike this one in far places or fewer."""
    return tuple(sorted([other for away, other in far_rows(many, word) if away <= far]))


def nearest(many, word):
    """(far, words): the fewest places in which a word of the kind (many, 1) is unlike, and all that are so near."""
    far = min([away for away, other in far_rows(many, word)])
    return (far, within(many, word, far))


def is_bent(many, word):
    """Whether all agreements are alike but for their sign."""
    row = agreements(many, word)
    return all([abs(more) == abs(row[0]) for more in row])
