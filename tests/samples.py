"""Words, polynomials and strange things that several tests go through."""


class LikesAll:
    """Says of everything that it is equal to it."""

    def __eq__(self, other):
        return True

    def __hash__(self):
        return 0


class Fraught:
    """Can't be compared with anything."""

    def __eq__(self, other):
        raise RuntimeError("compared")

    __lt__ = __gt__ = __le__ = __ge__ = __eq__
    __hash__ = None


def nested(kind, deep):
    """Kind within kind, so many deep."""
    thing = kind()
    for _ in range(deep - 1):
        thing = kind([thing])
    return thing


def nested_dict(deep):
    thing = {}
    for _ in range(deep - 1):
        thing = {0: thing}
    return thing


def strange_things():
    """Things that are no word, no term, no polynomial, no kind and no paper."""
    return [
        True, False, None, "", "0", "1", "all", "place", "()", b"", b"1", 0.0, 1.0, -1.0, 1.5, 1j,
        float("inf"), float("nan"), [], [0], [1], [()], [[0]], {}, {0: 1}, {1}, set(), frozenset(), frozenset([0]),
        object(), int, tuple, len, range(2), iter(()), LikesAll(), Fraught(), -1, -2, -2 ** 64, -2 ** 700,
        nested(list, 40), nested_dict(40), bytearray(b"1"), Ellipsis,
        (True,), (False,), (None,), ("",), ("0",), (0.0,), ([],), ({},), (LikesAll(),), (Fraught(),), (Fraught(), Fraught()),
        (-1,), (2 ** 70,), (2 ** 700,), nested(tuple, 40), (nested(list, 39),), (0, True), (0, None), (0, "1"), (0, 1.0),
        (0, [1]), ((True,),), ((None,),), (([],),), ((0, True),), ((LikesAll(),),), ((), None), ((), []), ((), True),
    ]


def all_of(many):
    """The word of all yes."""
    return 2 ** (2 ** many) - 1


def mixed(many, count, seed=1):
    """So many mixed words of many letters, the same each time."""
    told = []
    state = seed * 2862933555777941757 + 3037000493
    for _ in range(count):
        state = (state * 6364136223846793005 + 1442695040888963407) % 2 ** 128
        told.append((state >> 64) & all_of(many))
    return told


def some_words(many, count=12):
    """0, all yes, words of one yes, and mixed ones."""
    last = 2 ** many - 1
    ones = sorted({1, 2, 1 << last, 1 << last // 2})
    return [0, all_of(many), all_of(many) - 1, all_of(many) >> 1] + ones + mixed(many, count)


def bits(word, many):
    """What a word says at each place, reckoned through Python's own figures."""
    return [int(sign) for sign in reversed(format(word, "b").zfill(2 ** many))]


def number(digits):
    """The number with these digits, from the least."""
    return sum(2 ** at for at, digit in enumerate(digits) if digit)


def all_sums(some):
    """All sums of some words."""
    told = {0}
    for word in some:
        told |= {word ^ other for other in told}
    return told


def all_terms(many, most):
    """All terms of at most so many letters, in order."""
    from itertools import combinations
    return [term for size in range(most + 1) for term in combinations(range(many), size)]


def word_by_hand(many, poly):
    """The word of a polynomial, place by place."""
    told = []
    for place in range(2 ** many):
        yes = [letter for letter in range(many) if place // 2 ** letter % 2 == 1]
        told.append(sum(1 for term in poly if set(term) <= set(yes)) % 2)
    return number(told)


def all_words_by_kind(many, most):
    """All words of a kind, one by one, each a step of one term from the one ahead."""
    generators = [word_by_hand(many, [term]) for term in all_terms(many, most)]
    word = 0
    yield word
    for at in range(1, 2 ** len(generators)):
        word ^= generators[(at & -at).bit_length() - 1]
        yield word


ALL_KINDS = [(many, most) for many in range(1, 7) for most in range(many + 1)]


def words_of_kind(kind, count=8):
    """0, all yes, the words of single terms, and mixed ones of the kind."""
    many, most = kind
    single = [word_by_hand(many, [term]) for term in all_terms(many, most)]
    told = [0, all_of(many)] + single
    for pick in mixed(6, count, seed=many * 7 + most + 1):
        word = 0
        for at, other in enumerate(single):
            if pick >> at & 1:
                word ^= other
        told.append(word)
    return told


def degree_by_hand(many, word):
    """The degree of a word's polynomial, each term's digit reckoned by all places below it; -1 of 0."""
    told = -1
    for term in all_terms(many, many):
        within = [place for place in range(2 ** many) if place & ~sum(2 ** letter for letter in term) == 0]
        if sum(word >> place & 1 for place in within) % 2 == 1:
            told = len(term)
    return told
