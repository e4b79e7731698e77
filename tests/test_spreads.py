import unittest

from collections import Counter
from math import comb

from tests.samples import ALL_KINDS, all_of, all_sums, all_terms, all_words_by_kind, mixed
from yesnowords.besides import beside
from yesnowords.spreads import spread, turned_spread


def spread_by_hand(words):
    return tuple(sorted(Counter(word.bit_count() for word in words).items()))


def power_by_hand(j, w, places):
    """What stands at the j-th power of x in (1 - x) ** w * (1 + x) ** (places - w)."""
    return sum((-1) ** i * comb(w, i) * comb(places - w, j - i) for i in range(j + 1))


def turned_by_hand(many, told):
    total = sum(number for _, number in told)
    rows = []
    for j in range(2 ** many + 1):
        reckoned = sum(number * power_by_hand(j, w, 2 ** many) for w, number in told)
        assert reckoned % total == 0
        rows.append((j, reckoned // total))
    return tuple(row for row in rows if row[1])


class Spread(unittest.TestCase):
    def test_form(self):
        for kind in ALL_KINDS:
            told = spread(kind)
            self.assertIs(type(told), tuple)
            weights = [pair[0] for pair in told]
            self.assertEqual(weights, sorted(set(weights)))
            for pair in told:
                self.assertIs(type(pair), tuple)
                self.assertEqual([type(part) for part in pair], [int, int])
                self.assertGreater(pair[1], 0)
            self.assertEqual(sum(pair[1] for pair in told), 2 ** len(all_terms(*kind)))
            self.assertEqual(told[0], (0, 1))
            self.assertEqual(told[-1], (2 ** kind[0], 1))
            self.assertEqual(told[1][0], 2 ** (kind[0] - kind[1]))
            self.assertEqual(spread(kind), told)

    def test_against_all_words(self):
        for kind in ALL_KINDS:
            if len(all_terms(*kind)) <= 16:
                self.assertEqual(spread(kind), spread_by_hand(all_words_by_kind(*kind)), kind)

    def test_six_two_against_all_words(self):
        self.assertEqual(spread((6, 2)), spread_by_hand(all_words_by_kind(6, 2)))

    def test_great_ones(self):
        self.assertEqual(spread((6, 2)), (
            (0, 1), (16, 2604), (24, 291648), (28, 888832), (32, 1828134), (36, 888832), (40, 291648), (48, 2604),
            (64, 1)))
        self.assertEqual(spread((6, 3)), turned_by_hand(6, spread_by_hand(all_words_by_kind(6, 2))))
        self.assertEqual(spread((6, 4)), turned_by_hand(6, spread_by_hand(all_words_by_kind(6, 1))))
        self.assertEqual(spread((5, 3)), turned_by_hand(5, spread_by_hand(all_words_by_kind(5, 1))))
        for many in range(1, 7):
            places = 2 ** many
            self.assertEqual(spread((many, many)), tuple((j, comb(places, j)) for j in range(places + 1)))
            even = tuple((j, comb(places, j)) for j in range(0, places + 1, 2))
            self.assertEqual(spread((many, many - 1)), even)

    def test_like_against(self):
        for kind in ALL_KINDS:
            told = spread(kind)
            self.assertEqual(tuple((2 ** kind[0] - heavy, number) for heavy, number in told[::-1]), told)


class Turned(unittest.TestCase):
    def test_of_zero_alone_and_of_all(self):
        for many in range(1, 7):
            every = tuple((j, comb(2 ** many, j)) for j in range(2 ** many + 1))
            self.assertEqual(turned_spread(many, ((0, 1),)), every)
            self.assertEqual(turned_spread(many, every), ((0, 1),))

    def test_point_by_point(self):
        for kind in ALL_KINDS:
            told = spread(kind)
            self.assertEqual(turned_spread(kind[0], told), turned_by_hand(kind[0], told))
            self.assertEqual(turned_spread(kind[0], turned_spread(kind[0], told)), told)

    def test_of_the_kind_beside(self):
        for kind in ALL_KINDS:
            other = beside(kind)
            expected = ((0, 1),) if other is None else spread(other)
            self.assertEqual(turned_spread(kind[0], spread(kind)), expected)

    def test_of_any_sums(self):
        for many in (1, 2, 3):
            for count in range(5):
                for seed in range(1, 6):
                    sums = all_sums(mixed(many, count, seed))
                    even = [word for word in range(all_of(many) + 1)
                            if all((word & other).bit_count() % 2 == 0 for other in sums)]
                    told = turned_spread(many, spread_by_hand(sums))
                    self.assertEqual(told, spread_by_hand(even))
                    self.assertEqual(turned_spread(many, told), spread_by_hand(sums))
        for many in (4, 5, 6):
            for count in (1, 3, 8):
                told = spread_by_hand(all_sums(mixed(many, count)))
                self.assertEqual(turned_spread(many, told), turned_by_hand(many, told))
                self.assertEqual(turned_spread(many, turned_spread(many, told)), told)

    def test_nothing_changed(self):
        told = [(0, 1), (2, 1)]
        turned_spread(1, told)
        self.assertEqual(told, [(0, 1), (2, 1)])


if __name__ == "__main__":
    unittest.main()
