"""What the desk answers to each line but that of its kind."""

from yesnowords.besides import beside
from yesnowords.errors import NoFit, NoLine, NotIn, NoText, TooFar
from yesnowords.firsts import nearest
from yesnowords.flats import flat_of
from yesnowords.forms import form_of
from yesnowords.inners import parts
from yesnowords.kinds import digits_of, is_in, is_kind, terms, word_with
from yesnowords.lights import least
from yesnowords.losing import fill, mend_lost
from yesnowords.polys import poly_of, word_of
from yesnowords.reading import is_signs, read_heard, read_poly, read_word
from yesnowords.showing import poly_text, word_text
from yesnowords.spreads import spread
from yesnowords.turnings import is_turning, turned
from yesnowords.words import against, times, unlike, weight, word_at


def read_number(text):
    """The number that is written by figures, without a 0 ahead; NoLine where there is none."""
    if text == "" or not is_signs(text, len(text), "0123456789") or (text[0] == "0" and text != "0"):
        raise NoLine("this is no number")
    return int(text)


def read_kind(given):
    """The kind that is given by its two numbers; NoLine where there is none."""
    kind = tuple([read_number(text) for text in given])
    if not is_kind(kind):
        raise NoLine("this is no kind")
    return kind


def by_blanks(things):
    """The texts of the things, parted by blanks."""
    return " ".join([str(thing) for thing in things])


def tell_about(kind):
    """How many terms the kind has, its least, and the kind beside."""
    other = beside(kind)
    return by_blanks((len(terms(kind)), least(kind), "-" if other is None else by_blanks(other)))


def tell_spread(kind):
    """How many words of the kind there are of each weight."""
    return by_blanks([f"{heavy}:{number}" for heavy, number in spread(kind)])


def tell_poly(kind, word):
    """The word's polynomial."""
    return poly_text(poly_of(kind[0], word))


def tell_weight(kind, word):
    """At how many places the word says yes."""
    return str(weight(word))


def tell_is(kind, word):
    """Whether the word is of the kind."""
    return "yes" if is_in(kind, word) else "no"


def tell_digits(kind, word):
    """The digits with which the word is told."""
    try:
        digits = digits_of(kind, word)
    except NotIn:
        return "not in"
    return "".join([str(digit) for digit in digits])


def tell_flat(kind, word):
    """The flat whose word it is."""
    flat = flat_of(kind[0], word)
    if flat is None:
        return "none"
    place, directions = flat
    return by_blanks((place,) + directions)


def tell_nearest(kind, word):
    """How far the nearest words of most 1 are, and these."""
    far, words = nearest(kind[0], word)
    return by_blanks([far] + [word_text(kind[0], other) for other in words])


def tell_form(kind, word):
    """The form to which the word is turned."""
    try:
        turning, form = form_of(kind[0], word)
    except NotIn:
        return "not in"
    return by_blanks(form)


def tell_mended(kind, heard, lost):
    """The word that heard is mended to, and how many of its places that aren't lost are false."""
    try:
        word = mend_lost(kind, heard, lost)
    except TooFar:
        return "too far"
    known = against(kind[0], word_at(lost))
    return by_blanks((word_text(kind[0], word), unlike(times(word, known), heard)))


def tell_filled(kind, heard, lost):
    """The least word that fits, and how many do."""
    try:
        word, base = fill(kind, heard, lost)
    except NoFit:
        return "no fit"
    return by_blanks((word_text(kind[0], word), 1 << len(base)))


def tell_word(kind, given):
    """The word of the polynomial that is all that is given."""
    many = kind[0]
    return word_text(many, word_of(many, read_poly(many, " ".join(given))))


def tell_put(kind, given):
    """The word with the digits that are given."""
    if len(given) != 1 or not is_signs(given[0], len(terms(kind)), "01"):
        raise NoLine("there is to be one digit for each term")
    return word_text(kind[0], word_with(kind, tuple([int(sign) for sign in given[0]])))


def tell_turned(kind, given):
    """The word turned, given behind the shift and the images."""
    many = kind[0]
    if len(given) != many + 2:
        raise NoLine("there are to be a shift, an image for each letter, and a word")
    shift, *images = [read_number(text) for text in given[:-1]]
    turning = (tuple(images), shift)
    if not is_turning(many, turning):
        raise NoLine("this is no turning")
    return word_text(many, turned(many, turning, read_word(many, given[-1])))


def tell_parts(kind, given):
    """The parts of the word, given behind how many letters they are of."""
    many = kind[0]
    if len(given) != 2:
        raise NoLine("there are to be a number of letters and a word")
    inner = read_number(given[0])
    if not 1 <= inner <= many:
        raise NoLine("there are no parts of so many letters")
    return by_blanks([word_text(inner, part) for part in parts(many, read_word(many, given[1]), inner)])


BARE = {"about": tell_about, "spread": tell_spread}
OF_WORD = {
    "poly": tell_poly, "weight": tell_weight, "is": tell_is, "digits": tell_digits, "flat": tell_flat,
    "nearest": tell_nearest, "form": tell_form,
}
OF_HEARD = {"mend": tell_mended, "fill": tell_filled}
OF_MORE = {"word": tell_word, "put": tell_put, "turn": tell_turned, "parts": tell_parts}


def told_by_head(kind, head, given):
    """The answer to a line of this head and what is given behind it; NoLine or NoText where there is none."""
    if head in BARE and given == []:
        deed = BARE[head]
        return deed(kind)
    if head in OF_WORD and len(given) == 1:
        deed = OF_WORD[head]
        return deed(kind, read_word(kind[0], given[0]))
    if head in OF_HEARD and len(given) == 1:
        deed = OF_HEARD[head]
        heard, lost = read_heard(kind[0], given[0])
        return deed(kind, heard, lost)
    if head in OF_MORE:
        deed = OF_MORE[head]
        return deed(kind, given)
    raise NoLine("this line is none that is known")


def answer(kind, head, given):
    """The answer to a line of this head and what is given behind it; NoLine where there is none."""
    try:
        return told_by_head(kind, head, given)
    except NoText:
        raise NoLine("a word or a polynomial in this line isn't written as it is to be") from None
