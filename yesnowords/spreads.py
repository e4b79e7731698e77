"""Spreads: of some words, how many there are of each weight."""

from yesnowords.besides import beside


def how_many_paired(many, pairs):
    """How many sums of terms of two letters can be turned to one of so many pairs, no letter in two of them."""
    above = 1
    below = 1
    for at in range(1, pairs + 1):
        left = many - 2 * at + 2
        above *= (1 << (2 * at - 2)) * ((1 << left) - 1) * ((1 << (left - 1)) - 1)
        below *= (1 << (2 * at)) - 1
    return above // below


def paired_rows(many, pairs):
    """(weight, number) for all words whose terms of two letters are turned to so many pairs."""
    half = 1 << (many - 1)
    aside = 1 << (many - 1 - pairs)
    each = 1 << (2 * pairs)
    sums = how_many_paired(many, pairs)
    # Of one such sum there are 2 ** (many + 1) words, one for each choice of terms of fewer letters.
    balanced = (1 << (many + 1)) - 2 * each
    return [(half - aside, sums * each), (half, sums * balanced), (half + aside, sums * each)]


def spread_of_rows(rows):
    """The spread of rows of (weight, number), also of number 0 or of weights that stand twice."""
    numbers = {}
    for heavy, number in rows:
        numbers[heavy] = numbers.get(heavy, 0) + number
    return tuple([(heavy, numbers[heavy]) for heavy in sorted(numbers) if numbers[heavy] > 0])


def low_spread(kind):
    """The spread of a kind whose most is 2 or less."""
    many, most = kind
    if most == 0:
        return ((0, 1), (1 << many, 1))
    rows = []
    for pairs in range(many // 2 + 1 if most == 2 else 1):
        rows += paired_rows(many, pairs)
    return spread_of_rows(rows)


def spread(kind):
    """How many words of the kind there are of each weight."""
    many, most = kind
    if most <= 2:
        return low_spread(kind)
    # Of 6 letters at most, the kind beside one of most 3 or more has most 2 or less.
    other = beside(kind)
    return turned_spread(many, ((0, 1),) if other is None else low_spread(other))


def sign_powers(places, minus):
    """What stands at each power of x in (1 - x) ** minus * (1 + x) ** (places - minus)."""
    row = [1]
    for at in range(places):
        sign = -1 if at < minus else 1
        row = [one + sign * other for one, other in zip(row + [0], [0] + row)]
    return row


def turned_spread(many, told):
    """The spread of all words that are even with each of those whose spread is told."""
    sums = [0 for power in range((1 << many) + 1)]
    for heavy, number in told:
        powers = sign_powers(1 << many, heavy)
        sums = [one + number * other for one, other in zip(sums, powers)]
    words = sum([number for heavy, number in told])
    return spread_of_rows([(heavy, one // words) for heavy, one in enumerate(sums)])
