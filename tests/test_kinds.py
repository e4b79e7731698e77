import unittest

from tests.samples import (
    ALL_KINDS, all_of, all_terms, all_words_by_kind, degree_by_hand, mixed, some_words, strange_things, word_by_hand,
    words_of_kind,
)
from yesnowords.errors import NotIn
from yesnowords.kinds import digits_of, how_many, is_in, is_kind, is_within, terms, word_with
from yesnowords.words import plus, times


class IsKind(unittest.TestCase):
    def test_kinds(self):
        self.assertEqual(len(ALL_KINDS), 27)
        for many in range(-3, 12):
            for most in range(-3, 12):
                self.assertIs(is_kind((many, most)), (many, most) in ALL_KINDS)

    def test_wrong(self):
        for many, most in ALL_KINDS:
            for thing in [[many, most], (many,), (most,), (many, most, 0), (many, most, None), ((many, most),), many,
                          (str(many), most), (many, str(most)), (float(many), most), (many, float(most)),
                          (many, None), (None, most), (many, (most,)), ([many], most), {many: most},
                          (many, most - 7), (many + 6, most), (-many, most), (2 ** 70, most), (many, 2 ** 70)]:
                self.assertIs(is_kind(thing), False, thing)
            if many != most:
                self.assertIs(is_kind((most, many)), False)

    def test_truths(self):
        for thing in [(True, 0), (True, 1), (1, True), (1, False), (True, False), (True, True), (6, True), (6, False)]:
            self.assertIs(is_kind(thing), False, thing)

    def test_anything(self):
        for at, thing in enumerate(strange_things() + [(1, thing) for thing in strange_things()]):
            self.assertIs(is_kind(thing), False, at)
        for at, thing in enumerate(strange_things()):
            self.assertIs(is_kind((thing, 0)), False, at)


class Terms(unittest.TestCase):
    def test_in_order(self):
        for many, most in ALL_KINDS:
            self.assertEqual(terms((many, most)), tuple(all_terms(many, most)))
            self.assertIs(type(terms((many, most))), tuple)

    def test_by_hand(self):
        self.assertEqual(terms((3, 0)), ((),))
        self.assertEqual(terms((3, 2)), ((), (0,), (1,), (2,), (0, 1), (0, 2), (1, 2)))
        self.assertEqual(len(terms((6, 3))), 42)

    def test_how_many(self):
        for kind in ALL_KINDS:
            self.assertEqual(how_many(kind), 2 ** len(terms(kind)))
            self.assertEqual(how_many(kind), 2 ** len(all_terms(*kind)))
        self.assertEqual(how_many((6, 6)), 2 ** 64)
        self.assertEqual(how_many((6, 2)), 2 ** 22)
        for kind in ALL_KINDS:
            if len(all_terms(*kind)) <= 11:
                self.assertEqual(how_many(kind), len(set(all_words_by_kind(*kind))))


class IsIn(unittest.TestCase):
    def test_words_of_each_degree(self):
        for many, most in ALL_KINDS:
            for term in all_terms(many, many):
                word = word_by_hand(many, [term])
                self.assertIs(is_in((many, most), word), len(term) <= most)
                self.assertIs(is_in((many, most), word ^ all_of(many)), len(term) <= most)

    def test_zero_and_all(self):
        for kind in ALL_KINDS:
            self.assertIs(is_in(kind, 0), True)
            self.assertIs(is_in(kind, all_of(kind[0])), True)

    def test_mixed(self):
        for kind in ALL_KINDS:
            for word in words_of_kind(kind):
                self.assertIs(is_in(kind, word), True)
            for word in some_words(kind[0], 4):
                self.assertIs(is_in(kind, word), degree_by_hand(kind[0], word) <= kind[1])

    def test_gone_through(self):
        for many in (1, 2, 3):
            for most in range(many + 1):
                of_kind = set(all_words_by_kind(many, most))
                for word in range(all_of(many) + 1):
                    self.assertIs(is_in((many, most), word), word in of_kind)

    def test_sums_are_in(self):
        for kind in ALL_KINDS:
            words = words_of_kind(kind)[-6:]
            for one in words:
                for other in words:
                    self.assertIs(is_in(kind, plus(one, other)), True)

    def test_products_are_in_both_mosts_together(self):
        for many in range(1, 7):
            for most in range(many + 1):
                for other_most in range(many + 1):
                    kind = (many, min(many, most + other_most))
                    for one in words_of_kind((many, most))[-3:]:
                        for other in words_of_kind((many, other_most))[-3:]:
                            self.assertIs(is_in(kind, times(one, other)), True)


class Digits(unittest.TestCase):
    def test_word_with(self):
        for kind in ALL_KINDS:
            size = len(all_terms(*kind))
            self.assertEqual(word_with(kind, (0,) * size), 0)
            picks = [2 ** size - 1, 1, 1 << size - 1] + [pick & (2 ** size - 1) for pick in mixed(6, 8)]
            for pick in picks:
                digits = tuple(pick >> at & 1 for at in range(size))
                poly = [term for term, digit in zip(all_terms(*kind), digits) if digit]
                word = word_with(kind, digits)
                self.assertEqual(word, word_by_hand(kind[0], poly))
                self.assertEqual(digits_of(kind, word), digits)

    def test_digits_of(self):
        for kind in ALL_KINDS:
            for word in words_of_kind(kind):
                digits = digits_of(kind, word)
                self.assertIs(type(digits), tuple)
                self.assertEqual(len(digits), len(all_terms(*kind)))
                self.assertTrue(all(type(digit) is int and digit in (0, 1) for digit in digits))
                self.assertEqual(word_with(kind, digits), word)

    def test_by_hand(self):
        self.assertEqual(word_with((2, 1), (1, 0, 1)), 0b0011)
        self.assertEqual(digits_of((2, 1), 0b0011), (1, 0, 1))

    def test_not_in(self):
        for many, most in ALL_KINDS:
            outs = [word_by_hand(many, [term]) for term in all_terms(many, many) if len(term) > most]
            outs += [word for word in some_words(many) if degree_by_hand(many, word) > most]
            self.assertEqual(outs == [], many == most)
            for word in outs:
                with self.assertRaises(NotIn) as caught:
                    digits_of((many, most), word)
                self.assertIs(type(caught.exception), NotIn)


class IsWithin(unittest.TestCase):
    def test_by_most(self):
        for one in ALL_KINDS:
            for other in ALL_KINDS:
                if one[0] == other[0]:
                    self.assertIs(is_within(one, other), one[1] <= other[1])

    def test_by_all_words(self):
        for many in (1, 2, 3):
            sets = [set(all_words_by_kind(many, most)) for most in range(many + 1)]
            for one in range(many + 1):
                for other in range(many + 1):
                    self.assertIs(is_within((many, one), (many, other)), sets[one] <= sets[other])


if __name__ == "__main__":
    unittest.main()
