import unittest

from tests.samples import (
    all_terms, mixed, number, places_by_hand, sent_by_hand, some_flats, some_turnings, word_by_hand,
)
from yesnowords.polys import is_poly, poly_product, poly_sum
from yesnowords.turnings import is_turning
from yesnowords.turnpolys import leading, turned_poly


def in_order(some):
    return tuple(sorted(some, key=lambda term: (len(term), term)))


def some_polys(many, count=5):
    told = [(), ((),), (tuple(range(many)),), ((many - 1,),), ((), (0,))]
    every = all_terms(many, many)
    for pick in mixed(6, count, seed=many + 20):
        told.append(in_order(term for at, term in enumerate(every) if pick >> at & 1))
    return told


def letter_by_letter(many, turning, poly):
    """The polynomial in which each letter has given way to its sum, as it is told."""
    images, shift = turning
    ways = []
    for letter in range(many):
        way = [(other,) for other in range(many) if images[other] >> letter & 1]
        ways.append(tuple(([()] if shift >> letter & 1 else []) + way))
    total = ()
    for term in poly:
        product = ((),)
        for letter in term:
            product = poly_product(product, ways[letter])
        total = poly_sum(total, product)
    return total


class TurnedPoly(unittest.TestCase):
    def test_that_of_the_word_so_turned(self):
        for many in range(1, 7):
            for turning in some_turnings(many):
                for poly in some_polys(many):
                    told = turned_poly(many, turning, poly)
                    self.assertTrue(is_poly(many, told))
                    word = word_by_hand(many, poly)
                    by_hand = number([word >> sent_by_hand(turning, place) & 1 for place in range(2 ** many)])
                    self.assertEqual(word_by_hand(many, told), by_hand)

    def test_each_letter_gives_way(self):
        for many in range(1, 6):
            for turning in some_turnings(many, 3):
                for poly in some_polys(many, 2):
                    self.assertEqual(turned_poly(many, turning, poly), letter_by_letter(many, turning, poly))

    def test_edges(self):
        for many in range(1, 7):
            for turning in some_turnings(many):
                self.assertEqual(turned_poly(many, turning, ()), ())
                self.assertEqual(turned_poly(many, turning, ((),)), ((),))
            still = some_turnings(many)[0]
            for poly in some_polys(many):
                self.assertEqual(turned_poly(many, still, poly), poly)

    def test_by_hand(self):
        self.assertEqual(turned_poly(2, ((3, 2), 0), ((1,),)), ((0,), (1,)))
        self.assertEqual(turned_poly(2, ((3, 2), 0), ((0,),)), ((0,),))
        self.assertEqual(turned_poly(2, ((3, 2), 1), ((0, 1),)), ((1,), (0, 1)))
        self.assertEqual(turned_poly(3, ((2, 4, 1), 0), ((0,),)), ((2,),))


class Leading(unittest.TestCase):
    def check_leading(self, many, flat, other):
        told = leading(many, flat, other)
        self.assertIs(is_turning(many, told), True)
        there = {sent_by_hand(told, place) for place in places_by_hand(flat)}
        self.assertEqual(there, places_by_hand(other))
        self.assertEqual(leading(many, flat, other), told)

    def test_all_numbers_of_directions(self):
        for many in range(1, 7):
            for d in range(many + 1):
                ones = some_flats(many, d, 2, seed=d)[:12]
                others = some_flats(many, d, 2, seed=d + 30)[-12:]
                for flat in ones:
                    for other in others:
                        self.check_leading(many, flat, other)

    def test_the_same_flat_twice(self):
        for many in range(1, 7):
            for d in range(many + 1):
                for flat in some_flats(many, d, 1):
                    self.check_leading(many, flat, flat)

    def test_edges(self):
        self.check_leading(3, (0, ()), (7, ()))
        self.check_leading(3, (5, ()), (5, ()))
        self.check_leading(2, (0, (1, 2)), (0, (1, 2)))
        self.check_leading(6, (0, (1, 2, 4)), (7, (8, 16, 32)))
        self.check_leading(6, (0, (63,)), (1, (2,)))


if __name__ == "__main__":
    unittest.main()
