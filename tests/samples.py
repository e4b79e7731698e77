"""Words, polynomials and strange things that several tests go through."""


class LikesAll:
    """Says of everything that it is equal to it."""

    def __eq__(self, other):
        return True

    def __hash__(self):
        return 0


class Fraught:
    """Can't be compared with anything."""

    def __eq__(self, other):
        raise RuntimeError("compared")

    __lt__ = __gt__ = __le__ = __ge__ = __eq__
    __hash__ = None


def nested(kind, deep):
    """Kind within kind, so many deep."""
    thing = kind()
    for _ in range(deep - 1):
        thing = kind([thing])
    return thing


def nested_dict(deep):
    thing = {}
    for _ in range(deep - 1):
        thing = {0: thing}
    return thing


def strange_things():
    """Things that are no word, no term, no polynomial, no kind and no paper."""
    return [
        True, False, None, "", "0", "1", "all", "place", "()", b"", b"1", 0.0, 1.0, -1.0, 1.5, 1j,
        float("inf"), float("nan"), [], [0], [1], [()], [[0]], {}, {0: 1}, {1}, set(), frozenset(), frozenset([0]),
        object(), int, tuple, len, range(2), iter(()), LikesAll(), Fraught(), -1, -2, -2 ** 64, -2 ** 700,
        nested(list, 40), nested_dict(40), bytearray(b"1"), Ellipsis,
        (True,), (False,), (None,), ("",), ("0",), (0.0,), ([],), ({},), (LikesAll(),), (Fraught(),), (Fraught(), Fraught()),
        (-1,), (2 ** 70,), (2 ** 700,), nested(tuple, 40), (nested(list, 39),), (0, True), (0, None), (0, "1"), (0, 1.0),
        (0, [1]), ((True,),), ((None,),), (([],),), ((0, True),), ((LikesAll(),),), ((), None), ((), []), ((), True),
    ]


def all_of(many):
    """The word of all yes."""
    return 2 ** (2 ** many) - 1


def mixed(many, count, seed=1):
    """So many mixed words of many letters, the same each time."""
    told = []
    state = seed * 2862933555777941757 + 3037000493
    for _ in range(count):
        state = (state * 6364136223846793005 + 1442695040888963407) % 2 ** 128
        told.append((state >> 64) & all_of(many))
    return told


def some_words(many, count=12):
    """0, all yes, words of one yes, and mixed ones."""
    last = 2 ** many - 1
    ones = sorted({1, 2, 1 << last, 1 << last // 2})
    return [0, all_of(many), all_of(many) - 1, all_of(many) >> 1] + ones + mixed(many, count)


def bits(word, many):
    """What a word says at each place, reckoned through Python's own figures."""
    return [int(sign) for sign in reversed(format(word, "b").zfill(2 ** many))]


def number(digits):
    """The number with these digits, from the least."""
    return sum(2 ** at for at, digit in enumerate(digits) if digit)


def all_sums(some):
    """All sums of some words."""
    told = {0}
    for word in some:
        told |= {word ^ other for other in told}
    return told


def all_terms(many, most):
    """All terms of at most so many letters, in order."""
    from itertools import combinations
    return [term for size in range(most + 1) for term in combinations(range(many), size)]


def word_by_hand(many, poly):
    """The word of a polynomial, place by place."""
    told = []
    for place in range(2 ** many):
        yes = [letter for letter in range(many) if place // 2 ** letter % 2 == 1]
        told.append(sum(1 for term in poly if set(term) <= set(yes)) % 2)
    return number(told)


def all_words_by_kind(many, most):
    """All words of a kind, one by one, each a step of one term from the one ahead."""
    generators = [word_by_hand(many, [term]) for term in all_terms(many, most)]
    word = 0
    yield word
    for at in range(1, 2 ** len(generators)):
        word ^= generators[(at & -at).bit_length() - 1]
        yield word


ALL_KINDS = [(many, most) for many in range(1, 7) for most in range(many + 1)]


def words_of_kind(kind, count=8):
    """0, all yes, the words of single terms, and mixed ones of the kind."""
    many, most = kind
    single = [word_by_hand(many, [term]) for term in all_terms(many, most)]
    told = [0, all_of(many)] + single
    for pick in mixed(6, count, seed=many * 7 + most + 1):
        word = 0
        for at, other in enumerate(single):
            if pick >> at & 1:
                word ^= other
        told.append(word)
    return told


def degree_by_hand(many, word):
    """The degree of a word's polynomial, each term's digit reckoned by all places below it; -1 of 0."""
    told = -1
    for term in all_terms(many, many):
        within = [place for place in range(2 ** many) if place & ~sum(2 ** letter for letter in term) == 0]
        if sum(word >> place & 1 for place in within) % 2 == 1:
            told = len(term)
    return told


def other_numbers(thing):
    """Things that stand near a whole number, and aren't it."""
    told = [thing + 1, thing - 1, -thing - 1, thing + 64, thing + 2 ** 64, thing ^ 2, float(thing), str(thing), None]
    told += [(thing,), [thing], (), "", LikesAll(), Fraught(), thing == 1, thing != 0]
    return told


def other_tuples(thing):
    """Things that stand near a tuple, its parts as they were, and aren't it."""
    told = [list(thing), set(map(repr, thing)), thing + (0,), (0,) + thing, thing + (None,), thing + ((),), (thing,)]
    told += [thing[:at] + thing[at + 1:] for at in range(len(thing))]
    told += [thing[:at] + thing[at:at + 1] + thing[at:] for at in range(len(thing))]
    told += [thing[:at] + (thing[at + 1], thing[at]) + thing[at + 2:] for at in range(len(thing) - 1)]
    told += [thing[::-1], (), None, True, False, 0, 1, "", "()", LikesAll(), Fraught()]
    return told


def otherwise(thing):
    """Things like this one of whole numbers and tuples, with one thing otherwise somewhere in it."""
    if type(thing) is int:
        told = other_numbers(thing)
    else:
        told = other_tuples(thing)
        for at, part in enumerate(thing):
            told += [thing[:at] + (other,) + thing[at + 1:] for other in otherwise(part)]
    return [other for other in told if repr(other) != repr(thing)]


def some_flats(many, d, count=3, seed=1):
    """Flats of d directions, some for each choice of their greatest digits, the rest of all digits mixed."""
    from itertools import combinations
    told = []
    for tops in combinations(range(many), d):
        free = 2 ** many - 1 - sum(2 ** top for top in tops)
        picks = iter(mixed(6, (d + 1) * count, seed + d))
        for _ in range(count):
            directions = tuple(2 ** top | next(picks) & free & 2 ** top - 1 for top in tops)
            told.append((next(picks) & free, directions))
    return told


def is_place_by_hand(many, thing):
    """Whether anything is a place."""
    return type(thing) is int and 0 <= thing < 2 ** many


def places_by_hand(flat):
    """All places of a flat."""
    place, directions = flat
    return {place ^ total for total in all_sums(directions)}


def sent_by_hand(turning, place):
    """Where a turning sends a place, digit by digit."""
    images, shift = turning
    told = 0
    for digit in range(6):
        odd = shift // 2 ** digit + sum(image // 2 ** digit * (place // 2 ** at % 2) for at, image in enumerate(images))
        told += 2 ** digit * (odd % 2)
    return told


def some_turnings(many, count=6):
    """The turning that leaves all as it is, shifts, exchanged letters, and mixed ones."""
    last = 2 ** many - 1
    still = tuple(2 ** letter for letter in range(many))
    told = [(still, 0), (still, last), (still, 1), (still[::-1], 0), (still[1:] + still[:1], last // 2)]
    picks = mixed(6, 4000, seed=many)
    while len(told) < 5 + count:
        images = tuple(picks.pop() >> 3 & last for _ in range(many))
        if len(all_sums(images)) == 2 ** many:
            told.append((images, picks.pop() >> 3 & last))
    return told


def faults(many, count, seed=1):
    """A word that says yes at so many mixed places."""
    picks = mixed(6, 2 ** many, seed)
    places = sorted(range(2 ** many), key=lambda place: (picks[place] >> 7, place))
    return sum(2 ** place for place in places[:count])


def some_heard(kind):
    """Words of the kind with no fault, with as many as are still mended, with one or two more; and mixed words."""
    least = 2 ** (kind[0] - kind[1])
    told = some_words(kind[0], 6)
    for at, word in enumerate(words_of_kind(kind, 4)[-6:]):
        for count in sorted({0, 1, (least - 1) // 2, least // 2, least // 2 + 1}):
            told.append(word ^ faults(kind[0], count, seed=at + 3))
    return told


def told_or_none(refusal, deed, *given):
    """What the deed tells, None where it is refused with this very class."""
    try:
        return deed(*given)
    except refusal as error:
        assert type(error) is refusal
        return None


def near_words(kind, heard):
    """All words of the kind that are unlike heard in less than half of least(kind) places, gone through one by one."""
    least = 2 ** (kind[0] - kind[1])
    return [word for word in all_words_by_kind(*kind) if 2 * (word ^ heard).bit_count() < least]


SMALL_KINDS = [kind for kind in ALL_KINDS if len(all_terms(*kind)) <= 8]
