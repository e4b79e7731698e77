import unittest

from tests.samples import (
    ALL_KINDS, all_of, all_sums, all_terms, all_words_by_kind, degree_by_hand, mixed, some_words, word_by_hand,
    words_of_kind,
)
from yesnowords.besides import beside, checks, odd_check, told_by


def even_by_hand(one, other):
    return (one & other).bit_count() % 2 == 0


class Beside(unittest.TestCase):
    def test_all_kinds(self):
        for many, most in ALL_KINDS:
            told = beside((many, most))
            if most == many:
                self.assertIsNone(told)
            else:
                self.assertEqual(told, (many, many - most - 1))
                self.assertIs(type(told), tuple)
                self.assertEqual(beside(told), (many, most))

    def test_just_what_is_even_with_all(self):
        for many in (1, 2, 3):
            for most in range(many + 1):
                words = list(all_words_by_kind(many, most))
                even = {word for word in range(all_of(many) + 1) if all(even_by_hand(word, one) for one in words)}
                other = beside((many, most))
                self.assertEqual(even, {0} if other is None else set(all_words_by_kind(*other)))

    def test_great_ones(self):
        for kind in ALL_KINDS:
            other = beside(kind)
            if other is not None:
                for one in words_of_kind(kind):
                    for word in words_of_kind(other):
                        self.assertTrue(even_by_hand(one, word))
                # As many terms together as there are places: so nothing else is even with all.
                self.assertEqual(len(all_terms(*kind)) + len(all_terms(*other)), 2 ** kind[0])


class Checks(unittest.TestCase):
    def test_in_order(self):
        for many, most in ALL_KINDS:
            told = checks((many, most))
            self.assertIs(type(told), tuple)
            expected = () if most == many else tuple(
                word_by_hand(many, [term]) for term in all_terms(many, many - most - 1))
            self.assertEqual(told, expected)

    def test_by_hand(self):
        self.assertEqual(checks((2, 2)), ())
        self.assertEqual(checks((2, 1)), (0b1111,))
        self.assertEqual(checks((2, 0)), (0b1111, 0b1010, 0b1100))

    def test_their_sums_are_the_kind_beside(self):
        for kind in ALL_KINDS:
            if len(checks(kind)) <= 11:
                other = beside(kind)
                self.assertEqual(all_sums(checks(kind)), {0} if other is None else set(all_words_by_kind(*other)))


class ToldBy(unittest.TestCase):
    def test_words(self):
        for kind in ALL_KINDS:
            for word in words_of_kind(kind):
                self.assertEqual(told_by(kind, word), (0,) * len(checks(kind)))
            for word in some_words(kind[0]):
                told = told_by(kind, word)
                self.assertIs(type(told), tuple)
                self.assertTrue(all(type(digit) is int for digit in told))
                self.assertEqual(told, tuple(0 if even_by_hand(word, check) else 1 for check in checks(kind)))
                self.assertEqual(1 in told, degree_by_hand(kind[0], word) > kind[1])

    def test_of_plus(self):
        for kind in ALL_KINDS:
            words = some_words(kind[0], 3)
            for one in words:
                for other in mixed(kind[0], 4, seed=5):
                    both = zip(told_by(kind, one), told_by(kind, other))
                    self.assertEqual(told_by(kind, one ^ other), tuple((a + b) % 2 for a, b in both))

    def test_by_hand(self):
        self.assertEqual(told_by((2, 0), 0b0010), (1, 1, 0))
        self.assertEqual(told_by((2, 1), 0b0110), (0,))
        self.assertEqual(told_by((2, 2), 0b0111), ())


class OddCheck(unittest.TestCase):
    def test_first_one(self):
        for kind in ALL_KINDS:
            for word in words_of_kind(kind):
                self.assertIsNone(odd_check(kind, word))
            for word in some_words(kind[0]):
                odd = [check for check in checks(kind) if not even_by_hand(word, check)]
                self.assertEqual(odd_check(kind, word), odd[0] if odd else None)
                self.assertEqual(odd_check(kind, word) is None, degree_by_hand(kind[0], word) <= kind[1])

    def test_by_hand(self):
        self.assertEqual(odd_check((2, 0), 0b0001), 0b1111)
        self.assertEqual(odd_check((2, 0), 0b0101), 0b1100)
        self.assertEqual(odd_check((2, 0), 0b1010), 0b1100)
        self.assertEqual(odd_check((2, 0), 0b1001), 0b1010)
        self.assertIsNone(odd_check((2, 2), 0b0111))

    def test_gone_through(self):
        for many in (1, 2, 3):
            for most in range(many + 1):
                of_kind = set(all_words_by_kind(many, most))
                for word in range(all_of(many) + 1):
                    self.assertEqual(odd_check((many, most), word) is None, word in of_kind)
                    self.assertEqual(1 not in told_by((many, most), word), word in of_kind)


if __name__ == "__main__":
    unittest.main()
