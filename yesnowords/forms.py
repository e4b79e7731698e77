"""Second kinds: each word of degree 2 at most is turned to just one form."""

from yesnowords.errors import NotIn
from yesnowords.polys import degree, poly_of
from yesnowords.spreads import how_many_paired
from yesnowords.words import is_row, is_whole, plus, says


def letters_needed(form):
    """How many letters, from the first on, the form's polynomial is of."""
    pairs, rest = form
    return 2 * pairs + (1 if rest == 2 else 0)


def is_form(many, thing):
    """Whether anything is a form of many letters."""
    # Kinds first: what isn't a number may not be compared.
    if not is_row(thing, 2) or not is_whole(thing[0]) or not is_whole(thing[1]):
        return False
    pairs, rest = thing
    return pairs >= 0 and 0 <= rest <= 2 and letters_needed(thing) <= many


def form_poly(form):
    """The form's polynomial: pairs of letters, and 1 or a single letter more."""
    pairs, rest = form
    rests = ((), ((),), ((2 * pairs,),))
    return rests[rest] + tuple([(2 * at, 2 * at + 1) for at in range(pairs)])


def odd_at(word, places):
    """1 where the word says yes at an odd number of these, one that stands twice counted twice; else 0."""
    return sum([says(word, place) for place in places]) % 2


def are_paired(word, one, other):
    """Whether a step by the one place changes what a step by the other does; of degree 2 from wherever they start."""
    return odd_at(word, (0, one, other, plus(one, other))) == 1


def first_pair(word, some):
    """Two of some places that are paired, None where there are none."""
    for one in some:
        for other in some:
            if are_paired(word, one, other):
                return (one, other)
    return None


def freed(word, pair, place):
    """The place plus those of the pair by which it is paired with neither."""
    one, other = pair
    told = place
    if are_paired(word, place, one):
        told = plus(told, other)
    if are_paired(word, place, other):
        told = plus(told, one)
    return told


def pairs_and_left(many, word):
    """(pairs, left): a base of places, parted into pairs that are paired within alone, and those paired with none."""
    left = [1 << letter for letter in range(many)]
    pairs = []
    pair = first_pair(word, left)
    while pair is not None:
        pairs.append(pair)
        left = [freed(word, pair, place) for place in left if place not in pair]
        pair = first_pair(word, left)
    return (pairs, left)


def level_place(word, pairs):
    """A place from which a step by a single one of a pair's places changes nothing."""
    told = 0
    for one, other in pairs:
        # To start from one of a pair turns what a step by the other one changes, and nothing else.
        if odd_at(word, (0, one)) == 1:
            told = plus(told, other)
        if odd_at(word, (0, other)) == 1:
            told = plus(told, one)
    return told


def images_of_left(word, left):
    """(images, is_single): places with the same sums as those left, of which a step by the first alone, or by none,
    changes what the word says; whether that one does."""
    changing = [place for place in left if odd_at(word, (0, place)) == 1]
    if changing == []:
        return (left, False)
    first = changing[0]
    # Two that change come to one that doesn't.
    others = [plus(place, first) if place in changing else place for place in left if place != first]
    return ([first] + others, True)


def form_of(many, word):
    """(turning, form) so that the word so turned is the form's; NotIn where its degree is above 2."""
    if degree(poly_of(many, word)) > 2:
        raise NotIn(f"the polynomial of the word {word} has terms of more than 2 letters")
    pairs, left = pairs_and_left(many, word)
    images, is_single = images_of_left(word, left)
    shift = level_place(word, pairs)
    rest = says(word, shift)
    if is_single:
        # A step by the single place changes yes to no, so the shift can be moved to where the word says no.
        shift = plus(shift, images[0]) if rest == 1 else shift
        rest = 2
    paired = [place for pair in pairs for place in pair]
    return ((tuple(paired + images), shift), (len(pairs), rest))


def form_weight(many, form):
    """At how many places the form's word of many letters says yes."""
    pairs, rest = form
    half = 1 << (many - 1)
    if rest == 2:
        return half
    aside = 1 << (many - 1 - pairs)
    return half - aside if rest == 0 else half + aside


def how_many_have(many, form):
    """How many words of many letters have the form."""
    # What is no form of so many letters no word has.
    if not is_form(many, form):
        return 0
    pairs, rest = form
    each = 1 << (2 * pairs)
    return how_many_paired(many, pairs) * ((2 << many) - 2 * each if rest == 2 else each)
