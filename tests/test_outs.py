import unittest

from tests.samples import (
    ALL_KINDS, all_of, all_words_by_kind, degree_by_hand, mixed, nested, otherwise, places_by_hand, some_flats,
    some_words, strange_things, words_of_kind,
)
from yesnowords.besides import odd_check
from yesnowords.flats import flat_of, is_flat
from yesnowords.outlooks import shows_out
from yesnowords.outs import lightest, odd_flat


def says_yes(word, flat):
    """At how many of the flat's places the word says yes."""
    return sum(word >> place & 1 for place in places_by_hand(flat))


def out_by_hand(kind, word, flat):
    return len(flat[1]) == kind[1] + 1 and says_yes(word, flat) % 2 == 1


class OddFlat(unittest.TestCase):
    def check_out(self, kind, word):
        told = odd_flat(kind, word)
        self.assertIs(type(told), tuple)
        self.assertIs(is_flat(kind[0], told), True)
        self.assertTrue(out_by_hand(kind, word, told))
        self.assertIs(shows_out(kind, word, told), True)
        self.assertEqual(odd_flat(kind, word), told)

    def test_none_of_words_of_the_kind(self):
        for kind in ALL_KINDS:
            for word in words_of_kind(kind):
                self.assertIsNone(odd_flat(kind, word))

    def test_of_all_others(self):
        for kind in ALL_KINDS:
            outside = 0
            for word in some_words(kind[0]) + words_of_kind((kind[0], min(kind[1] + 1, kind[0]))):
                if degree_by_hand(kind[0], word) > kind[1]:
                    outside += 1
                    self.check_out(kind, word)
                else:
                    self.assertIsNone(odd_flat(kind, word))
            self.assertEqual(outside == 0, kind[0] == kind[1])

    def test_gone_through(self):
        for many in (1, 2, 3):
            for most in range(many + 1):
                of_kind = set(all_words_by_kind(many, most))
                for word in range(all_of(many) + 1):
                    if word in of_kind:
                        self.assertIsNone(odd_flat((many, most), word))
                    else:
                        self.check_out((many, most), word)

    def test_just_where_a_check_is_odd(self):
        for kind in ALL_KINDS:
            for word in some_words(kind[0]):
                self.assertEqual(odd_flat(kind, word) is None, odd_check(kind, word) is None)

    def test_most_many(self):
        for many in range(1, 7):
            for word in some_words(many):
                self.assertIsNone(odd_flat((many, many), word))


class ShowsOut(unittest.TestCase):
    def test_each_such_flat(self):
        for kind in ALL_KINDS:
            many, most = kind
            seen = set()
            for word in some_words(many, 4):
                for d in range(many + 1):
                    for flat in some_flats(many, d, 2, seed=d):
                        told = out_by_hand(kind, word, flat)
                        seen.add(told)
                        self.assertIs(shows_out(kind, word, flat), told)
            self.assertEqual(seen, {False} if most == many else {True, False})

    def test_never_of_words_of_the_kind(self):
        for kind in ALL_KINDS:
            many, most = kind
            for word in words_of_kind(kind, 4):
                for d in range(many + 1):
                    for flat in some_flats(many, d, 1):
                        self.assertIs(shows_out(kind, word, flat), False)
                        if d == most + 1:
                            self.assertEqual(says_yes(word, flat) % 2, 0)

    def test_another_number_of_directions(self):
        self.assertIs(shows_out((3, 1), 0b00000001, (0, (1, 2))), True)
        self.assertIs(shows_out((3, 1), 0b00000001, (0, (1,))), False)
        self.assertIs(shows_out((3, 1), 0b00000001, (0, (1, 2, 4))), False)
        self.assertIs(shows_out((3, 1), 0b00000001, (0, ())), False)
        self.assertIs(shows_out((3, 0), 0b00000001, (0, (1,))), True)
        self.assertIs(shows_out((3, 2), 0b00000001, (0, (1, 2, 4))), True)
        self.assertIs(shows_out((3, 1), 0b00000011, (0, (1, 2))), False)
        self.assertIs(shows_out((3, 1), 0b00000001, (4, (1, 2))), False)
        self.assertIs(shows_out((3, 1), 0b00000001, (0, (6, 1))), False)
        self.assertIs(shows_out((3, 1), 0b00000111, (0, (1, 2))), True)

    def test_most_many(self):
        for many in range(1, 7):
            for word in some_words(many, 3):
                for d in range(many + 1):
                    for flat in some_flats(many, d, 1):
                        self.assertIs(shows_out((many, many), word, flat), False)
                beyond = (0, tuple(2 ** letter for letter in range(many + 1)))
                self.assertIs(shows_out((many, many), word, beyond), False)
                zero_ahead = (0, (0,) + tuple(2 ** letter for letter in range(many)))
                self.assertIs(shows_out((many, many), word, zero_ahead), False)

    def test_one_thing_otherwise(self):
        for kind in ALL_KINDS:
            for word in mixed(kind[0], 3, seed=3):
                flat = odd_flat(kind, word)
                if flat is not None:
                    for thing in otherwise(flat):
                        told = is_flat(kind[0], thing) and out_by_hand(kind, word, thing)
                        self.assertIs(shows_out(kind, word, thing), told)

    def test_of_another_many(self):
        self.assertIs(shows_out((3, 0), 0b00000001, (0, (8,))), False)
        self.assertIs(shows_out((4, 0), 0b00000001, (0, (8,))), True)
        self.assertIs(shows_out((2, 0), 0b0001, (0, (4,))), False)

    def test_anything(self):
        for kind in ALL_KINDS:
            for word in (0, 1, all_of(kind[0])):
                for at, thing in enumerate(strange_things()):
                    self.assertIs(shows_out(kind, word, thing), False, at)
                    self.assertIs(shows_out(kind, word, (0, thing)), False, at)
                    self.assertIs(shows_out(kind, word, (thing, ())), False, at)
                    self.assertIs(shows_out(kind, word, (0, (thing,))), False, at)
                self.assertIs(shows_out(kind, word, (0, nested(tuple, 39))), False)

    def test_never_both(self):
        for many in (1, 2, 3):
            flats = [flat for d in range(many + 1) for flat in some_flats(many, d, 8)]
            for most in range(many + 1):
                of_kind = set(all_words_by_kind(many, most))
                for word in range(all_of(many) + 1):
                    shown = [flat for flat in flats if shows_out((many, most), word, flat)]
                    self.assertFalse(shown and word in of_kind)


class Lightest(unittest.TestCase):
    def test_gone_through(self):
        for kind in ALL_KINDS:
            if kind[0] <= 4 or kind[1] <= 1:
                least = 2 ** (kind[0] - kind[1])
                light = [word for word in all_words_by_kind(*kind) if word.bit_count() == least]
                self.assertEqual(lightest(kind), len(light))
                self.assertTrue(all(len(flat_of(kind[0], word)[1]) == kind[0] - kind[1] for word in light))

    def test_told_ones(self):
        told = {
            (5, 2): 620, (5, 3): 1240, (5, 4): 496, (5, 5): 32, (6, 2): 2604, (6, 3): 11160, (6, 4): 10416, (6, 5): 2016,
            (6, 6): 64}
        for kind, number in told.items():
            self.assertEqual(lightest(kind), number)
            self.assertIs(type(lightest(kind)), int)

    def test_flats_are_of_the_kind(self):
        for many, most in ALL_KINDS:
            for flat in some_flats(many, many - most):
                word = sum(2 ** place for place in places_by_hand(flat))
                self.assertLessEqual(degree_by_hand(many, word), most)


if __name__ == "__main__":
    unittest.main()
