"""Mending by halves: first the sum of both halves, then the low one."""

from yesnowords.errors import TooFar
from yesnowords.lights import is_near
from yesnowords.words import against, all_yes, halves, joined, plus, weight


def by_more_than_half(many, heard):
    """All yes or all no, by more than half of all places; None where it is just half."""
    yes = weight(heard)
    no = weight(against(many, heard))
    if yes == no:
        return None
    return all_yes(many) if yes > no else 0


def by_halves(kind, heard):
    """The word of the kind that is unlike heard in less than half of least(kind) places, None where there is none."""
    many, most = kind
    if most == many:
        return heard
    if most == 0:
        return by_more_than_half(many, heard)
    low, high = halves(many, heard)
    # The faults of both halves fall together, at worst on as many places: so their sum is no further off.
    both = by_halves((many - 1, most - 1), plus(low, high))
    if both is None:
        return None
    # One of the halves has at most half of all faults; the sum makes each tell the low one.
    lows = [by_halves((many - 1, most), half) for half in (low, plus(high, both))]
    words = [joined(many, one, plus(one, both)) for one in lows if one is not None]
    near_ones = [word for word in words if is_near(kind, word, heard)]
    return near_ones[0] if near_ones else None


def mend_by_halves(kind, heard):
    """The word of the kind that is unlike heard in less than half of least(kind) places; TooFar where there is none."""
    word = by_halves(kind, heard)
    if word is None:
        raise TooFar(f"no word of the kind is near enough to {heard}")
    return word
