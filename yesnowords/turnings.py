"""Turnings: each sends places to places, unlike ones to unlike ones, letter by letter and by a shift."""

from yesnowords.bases import base_of
from yesnowords.words import is_place, is_row, plus, says, where, word_at


def is_turning(many, thing):
    """Whether anything is a turning of many letters."""
    if not is_row(thing, 2):
        return False
    images, shift = thing
    if not is_place(many, shift) or not is_row(images, many):
        return False
    if not all([is_place(many, image) for image in images]):
        return False
    # Two places are sent to one just where some images, one at least, come to 0.
    return len(base_of(images)) == many


def sent(turning, place):
    """The place to which the turning sends this one."""
    images, told = turning
    for letter in where(place):
        told = plus(told, images[letter])
    return told


def turned(many, turning, word):
    """The word that says at each place what this one says where that is sent."""
    return word_at([place for place in range(1 << many) if says(word, sent(turning, place)) == 1])


def one_by_one(one, other):
    """The turning that sends as first one, then other does."""
    images, shift = one
    unshifted = (other[0], 0)
    return (tuple([sent(unshifted, image) for image in images]), sent(other, shift))


def back(turning):
    """The turning that sends each place back."""
    many = len(turning[0])
    whence = {sent(turning, place): place for place in range(1 << many)}
    return (tuple([plus(whence[1 << letter], whence[0]) for letter in range(many)]), whence[0])


def how_many_turnings(many):
    """How many turnings of many letters there are."""
    told = 1 << many
    # Each image is chosen beyond the sums of those ahead.
    for letter in range(many):
        told *= (1 << many) - (1 << letter)
    return told
