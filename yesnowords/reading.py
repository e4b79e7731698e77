"""Texts read back: just what showing writes, nothing else."""

from yesnowords.errors import NoText
from yesnowords.polys import is_poly
from yesnowords.showing import SIGNS, poly_text
from yesnowords.words import word_at


def term_read(text):
    """The numbers of the text's signs, -1 where one is no letter's; () of 1."""
    return () if text == "1" else tuple([SIGNS.find(sign) for sign in text])


def poly_read(text):
    """The tuple of what stands between the pluses, from the last to the first; () of 0."""
    return () if text == "0" else tuple([term_read(part) for part in reversed(text.split(" + "))])


def read_poly(many, text):
    """The polynomial that is just so written; NoText where there is none."""
    if isinstance(text, str):
        poly = poly_read(text)
        # An empty part would be read as the term of no letters, so the text is looked at once more.
        if is_poly(many, poly) and poly_text(poly) == text:
            return poly
    raise NoText("this is no polynomial's text")


def places_of(sign, text):
    """The rising tuple of the places at which the sign stands."""
    return tuple([place for place, other in enumerate(text) if other == sign])


def is_signs(thing, size, signs):
    """Whether anything is a text of so many of these signs."""
    return isinstance(thing, str) and len(thing) == size and all([sign in signs for sign in thing])


def read_word(many, text):
    """The word that is just so written; NoText where there is none."""
    if not is_signs(text, 1 << many, "01"):
        raise NoText("this is no word's text")
    return word_at(places_of("1", text))


def read_heard(many, text):
    """(word, lost) that is just so written, the word saying no at lost places; NoText where there is none."""
    if not is_signs(text, 1 << many, "01?"):
        raise NoText("this is no heard word's text")
    return (word_at(places_of("1", text)), places_of("?", text))
