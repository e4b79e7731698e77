"""A look whether a paper shows that a word says yes so often."""

from yesnowords.words import all_yes, halves, is_place, is_row, plus, says


def has_head(thing, size, head):
    """Whether anything is a tuple of so many parts, the first one this text."""
    # The kind first: a thing of another kind may say that it is equal to a text.
    return is_row(thing, size) and isinstance(thing[0], str) and thing[0] == head


def is_yes_place(many, word, thing):
    """Whether anything is a place at which the word says yes."""
    return is_place(many, thing) and says(word, thing) == 1


def shows_light(kind, word, thing):
    """Whether anything is a paper that the word says yes at least(kind) places or more."""
    many, most = kind
    if most == 0:
        return has_head(thing, 1, "all") and word == all_yes(many)
    if most == many:
        return has_head(thing, 2, "place") and is_yes_place(many, word, thing[1])
    low, high = halves(many, word)
    if low == high:
        return has_head(thing, 2, "twice") and shows_light((many - 1, most), low, thing[1])
    return has_head(thing, 2, "sum") and shows_light((many - 1, most - 1), plus(low, high), thing[1])
