"""Words within one: parts of fewer letters, one for each choice of the others."""

from yesnowords.steplooks import stepped
from yesnowords.words import all_yes, plus, times, weight


def outer_steps(many, word, inner):
    """What comes of the word by a step with each letter from inner on; the same again leads back."""
    for letter in range(inner, many):
        word = stepped(many, word, letter)
    return word


def parts(many, word, inner):
    """The words of inner letters of which the word is made."""
    row = outer_steps(many, word, inner)
    return tuple([times(row >> (at << inner), all_yes(inner)) for at in range(1 << (many - inner))])


def put_in(many, inner, some):
    """The word with these parts."""
    row = 0
    for at, part in enumerate(some):
        row = plus(row, part << (at << inner))
    return outer_steps(many, row, inner)


def part_kinds(kind, inner):
    """For each part the kind of which it is where the word is of this kind, None where it is 0 then."""
    many, most = kind
    lefts = [most - weight(at) for at in range(1 << (many - inner))]
    return tuple([None if left < 0 else (inner, min(inner, left)) for left in lefts])
