import unittest

from tests.samples import all_of, bits, mixed, number, some_words, strange_things
from yesnowords.words import (
    against, halves, is_even, is_word, joined, plus, says, times, unlike, weight, where, word_at,
)

ALL_MANY = range(1, 7)


class IsWord(unittest.TestCase):
    def test_words(self):
        for many in ALL_MANY:
            for word in some_words(many):
                self.assertIs(is_word(many, word), True)

    def test_edges(self):
        for many in ALL_MANY:
            self.assertIs(is_word(many, 0), True)
            self.assertIs(is_word(many, all_of(many)), True)
            self.assertIs(is_word(many, all_of(many) + 1), False)
            self.assertIs(is_word(many, -1), False)
            self.assertIs(is_word(many, -all_of(many)), False)
        self.assertIs(is_word(6, 2 ** 64 - 1), True)
        self.assertIs(is_word(6, 2 ** 64), False)
        self.assertIs(is_word(6, 2 ** 4000), False)

    def test_anything(self):
        for many in ALL_MANY:
            for at, thing in enumerate(strange_things()):
                self.assertIs(is_word(many, thing), False, at)


class Places(unittest.TestCase):
    def test_says_where_and_weight(self):
        for many in ALL_MANY:
            for word in some_words(many):
                told = bits(word, many)
                self.assertEqual([says(word, place) for place in range(2 ** many)], told)
                self.assertEqual(where(word), tuple(at for at, digit in enumerate(told) if digit))
                self.assertEqual(weight(word), sum(told))

    def test_says_beyond_the_last_yes(self):
        for word in [0, 1, 5, 2 ** 64 - 1]:
            for place in [64, 65, 200]:
                self.assertEqual(says(word, place), 0)
        self.assertEqual([says(4, place) for place in range(6)], [0, 0, 1, 0, 0, 0])

    def test_of_zero(self):
        self.assertEqual(where(0), ())
        self.assertEqual(weight(0), 0)

    def test_of_all_and_of_one(self):
        self.assertEqual(weight(2 ** 64 - 1), 64)
        self.assertEqual(where(2 ** 64 - 1), tuple(range(64)))
        for place in range(64):
            self.assertEqual(where(2 ** place), (place,))
            self.assertEqual(weight(2 ** place), 1)

    def test_word_at(self):
        self.assertEqual(word_at(()), 0)
        self.assertEqual(word_at((63,)), 2 ** 63)
        self.assertEqual(word_at((3, 0, 1)), 11)
        self.assertEqual(word_at((0, 1, 3)), 11)
        self.assertEqual(word_at((1, 3, 0)), 11)
        self.assertEqual(word_at(tuple(range(64))), 2 ** 64 - 1)
        for many in ALL_MANY:
            for word in some_words(many):
                places = where(word)
                self.assertEqual(word_at(places), word)
                self.assertEqual(word_at(places[::-1]), word)

    def test_kinds_told(self):
        for told in (says(5, 0), says(5, 1), weight(5), word_at((1,))):
            self.assertIs(type(told), int)
        self.assertIs(type(where(5)), tuple)


class Together(unittest.TestCase):
    def pairs(self):
        for many in ALL_MANY:
            words = some_words(many, 6)
            for one in words:
                for other in words:
                    yield many, one, other

    def test_both_ways_about(self):
        for many, one, other in self.pairs():
            left, right = bits(one, many), bits(other, many)
            both = list(zip(left, right))
            self.assertEqual(plus(one, other), number([a != b for a, b in both]))
            self.assertEqual(times(one, other), number([a and b for a, b in both]))
            self.assertEqual(unlike(one, other), sum(a != b for a, b in both))
            self.assertIs(is_even(one, other), sum(a and b for a, b in both) % 2 == 0)
            self.assertEqual(plus(one, other), plus(other, one))
            self.assertEqual(times(one, other), times(other, one))
            self.assertEqual(unlike(one, other), unlike(other, one))
            self.assertIs(is_even(one, other), is_even(other, one))

    def test_is_even_by_hand(self):
        self.assertIs(is_even(0, 2 ** 64 - 1), True)
        self.assertIs(is_even(7, 7), False)
        self.assertIs(is_even(3, 3), True)
        self.assertIs(is_even(6, 12), False)

    def test_against(self):
        for many in ALL_MANY:
            self.assertEqual(against(many, 0), all_of(many))
            self.assertEqual(against(many, all_of(many)), 0)
            for word in some_words(many):
                self.assertEqual(bits(against(many, word), many), [1 - digit for digit in bits(word, many)])
                self.assertEqual(against(many, against(many, word)), word)


class Halves(unittest.TestCase):
    def test_by_hand(self):
        self.assertEqual(halves(2, 0b0110), (0b10, 0b01))
        self.assertEqual(joined(2, 0b10, 0b01), 0b0110)
        self.assertEqual(halves(6, 2 ** 64 - 1), (2 ** 32 - 1, 2 ** 32 - 1))
        self.assertEqual(halves(6, 2 ** 63), (0, 2 ** 31))
        self.assertEqual(halves(6, 2 ** 31), (2 ** 31, 0))

    def test_back_and_forth(self):
        for many in range(2, 7):
            for word in some_words(many):
                told = bits(word, many)
                half = 2 ** (many - 1)
                low, high = halves(many, word)
                self.assertIs(type(halves(many, word)), tuple)
                self.assertEqual(low, number(told[:half]))
                self.assertEqual(high, number(told[half:]))
                self.assertEqual(joined(many, low, high), word)
            lows = some_words(many - 1, 4)
            for low in lows:
                for high in lows + mixed(many - 1, 3, seed=9):
                    self.assertEqual(halves(many, joined(many, low, high)), (low, high))


class AskedAgain(unittest.TestCase):
    def test_the_same(self):
        for word in some_words(6):
            self.assertEqual(where(word), where(word))
            self.assertEqual(weight(word), weight(word))

    def test_nothing_changed(self):
        places = [3, 0, 1]
        word_at(places)
        self.assertEqual(places, [3, 0, 1])


if __name__ == "__main__":
    unittest.main()
