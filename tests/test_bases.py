import unittest

from itertools import combinations

from tests.samples import all_of, all_sums, mixed, some_words
from yesnowords.bases import base_of, even_with, made_of
from yesnowords.words import is_even

SMALL = [
    (), (0,), (0, 0), (1,), (1, 1), (2, 1), (1, 2), (3, 1), (1, 3, 2), (5, 6, 3), (12, 10, 6), (15, 9, 0, 9),
    (7, 14, 28, 56), (255, 15, 51, 85), (8, 4, 2, 1), (9, 9, 9),
]


class Base(unittest.TestCase):
    def check_form(self, base):
        self.assertIs(type(base), tuple)
        self.assertEqual(list(base), sorted(set(base)))
        self.assertNotIn(0, base)
        for at, word in enumerate(base):
            greatest = word.bit_length() - 1
            for other_at, other in enumerate(base):
                if other_at != at:
                    self.assertEqual(other >> greatest & 1, 0)


class BaseOf(Base):
    def test_edges(self):
        self.assertEqual(base_of(()), ())
        self.assertEqual(base_of((0,)), ())
        self.assertEqual(base_of((0, 0, 0)), ())
        self.assertEqual(base_of((6, 6)), (6,))
        self.assertEqual(base_of((6, 0, 6, 6)), (6,))
        self.assertEqual(base_of((3, 1)), (1, 2))
        self.assertEqual(base_of((2 ** 64 - 1,)), (2 ** 64 - 1,))
        self.assertEqual(base_of((2 ** 64 - 1, 2 ** 64 - 2)), (1, 2 ** 64 - 2))

    def test_same_sums(self):
        for some in SMALL + [tuple(mixed(many, 7, seed)) for many in range(1, 7) for seed in range(1, 5)]:
            base = base_of(some)
            self.check_form(base)
            self.assertEqual(all_sums(base), all_sums(some))
            self.assertEqual(len(all_sums(base)), 2 ** len(base))

    def test_any_order_and_itself(self):
        for some in SMALL + [tuple(mixed(6, 40, seed)) for seed in range(1, 6)]:
            base = base_of(some)
            self.check_form(base)
            self.assertEqual(base_of(some[::-1]), base)
            self.assertEqual(base_of(tuple(sorted(some))), base)
            self.assertEqual(base_of(some + some), base)
            self.assertEqual(base_of(base), base)
            self.assertEqual(base_of(base[::-1]), base)

    def test_all_words(self):
        self.assertEqual(base_of(tuple(range(16))), (1, 2, 4, 8))
        self.assertEqual(base_of(tuple(2 ** place for place in range(64))), tuple(2 ** place for place in range(64)))


class MadeOf(Base):
    def test_each_sum(self):
        for some in SMALL + [tuple(mixed(6, 6, seed)) for seed in range(1, 4)]:
            base = base_of(some)
            for size in range(len(base) + 1):
                for numbers in combinations(range(len(base)), size):
                    word = 0
                    for at in numbers:
                        word ^= base[at]
                    self.assertEqual(made_of(base, word), numbers)

    def test_of_zero(self):
        for some in SMALL:
            self.assertEqual(made_of(base_of(some), 0), ())

    def test_of_no_sum(self):
        for some in SMALL:
            base = base_of(some)
            sums = all_sums(base)
            for word in range(256):
                if word not in sums:
                    self.assertIsNone(made_of(base, word))
        self.assertIsNone(made_of((3,), 2))
        self.assertIsNone(made_of((3,), 1))
        self.assertIsNone(made_of((1, 2), 2 ** 63))

    def test_of_no_base(self):
        self.assertEqual(made_of((), 0), ())
        self.assertIsNone(made_of((), 1))
        self.assertIsNone(made_of((), 2 ** 64 - 1))


class EvenWith(Base):
    def test_gone_through(self):
        for many in (1, 2, 3):
            whole = range(all_of(many) + 1)
            for some in SMALL + [tuple(mixed(many, count, seed)) for count in (1, 2, 3, 5) for seed in (1, 2)]:
                some = tuple(word for word in some if word <= all_of(many))
                base = even_with(many, some)
                self.check_form(base)
                even = {word for word in whole if all(bin(word & other).count("1") % 2 == 0 for other in some)}
                self.assertEqual(all_sums(base), even)

    def test_great_ones(self):
        for many in (4, 5, 6):
            for count in (0, 1, 5, 17, 40):
                some = tuple(mixed(many, count, seed=count + 1)) + (0,)
                base = even_with(many, some)
                self.check_form(base)
                self.assertTrue(all(is_even(one, other) for one in base for other in some))
                self.assertEqual(len(base), 2 ** many - len(base_of(some)))
                self.assertEqual(even_with(many, base), base_of(some))

    def test_of_none_and_of_all(self):
        for many in range(1, 7):
            singles = tuple(2 ** place for place in range(2 ** many))
            self.assertEqual(even_with(many, ()), singles)
            self.assertEqual(even_with(many, (0,)), singles)
            self.assertEqual(even_with(many, singles), ())

    def test_of_one(self):
        self.assertEqual(even_with(1, (3,)), (3,))
        self.assertEqual(even_with(2, (15,)), (3, 5, 9))
        for word in some_words(3):
            self.assertEqual(even_with(3, (word, word)), even_with(3, (word,)))

    def test_nothing_changed_and_the_same_again(self):
        some = [6, 3, 5, 0]
        told = base_of(some), even_with(3, some)
        self.assertEqual(some, [6, 3, 5, 0])
        self.assertEqual((base_of(some), even_with(3, some)), told)


if __name__ == "__main__":
    unittest.main()
