import unittest

from tests.samples import all_of, all_terms, mixed, number, some_words, strange_things, word_by_hand
from yesnowords.polys import degree, is_poly, is_term, poly_of, poly_product, poly_sum, value, word_of
from yesnowords.words import plus, times

ALL_MANY = range(1, 7)


def chosen(many, word):
    """The polynomial of the terms by whose numbers the word says yes."""
    return tuple(term for at, term in enumerate(all_terms(many, many)) if word >> at & 1)


def some_polys(many, count=6):
    return [(), ((),), ((0,),), ((), (many - 1,)), (tuple(range(many)),)] + [
        chosen(many, word) for word in [all_of(many)] + mixed(many, count)]


def naive_value(poly, place):
    return sum(all(place >> letter & 1 for letter in term) for term in poly) % 2


class IsTerm(unittest.TestCase):
    def test_terms(self):
        for many in ALL_MANY:
            for term in all_terms(6, 6):
                self.assertIs(is_term(many, term), all(letter < many for letter in term))

    def test_wrong(self):
        for thing in [(1, 0), (0, 0), (0, 1, 1), (6,), (-1,), (-1, 0), (0, 6), (0, 2, 1), [0], [], ((),), ((0,),),
                      (True,), (0, True), (False, 1), (0.0,), ("a",), "a", 0, 1, None, (0, None)]:
            self.assertIs(is_term(6, thing), False, thing)

    def test_anything(self):
        for many in ALL_MANY:
            for at, thing in enumerate(strange_things()):
                self.assertIs(is_term(many, thing), False, at)


class IsPoly(unittest.TestCase):
    def test_polys(self):
        for many in ALL_MANY:
            for poly in some_polys(many):
                self.assertIs(is_poly(many, poly), True)

    def test_wrong(self):
        for thing in [((0,), ()), ((1,), (0,)), ((0, 1), (2,)), ((0,), (0,)), ((), ()), ((0, 2), (0, 1)), [()], [],
                      ([0],), ((0, 0),), ((1, 0),), ((6,),), ((-1,),), ((True,),), ((), (True,)), (0,), (0, 1), (),
                      ((0,), (1,), (0, 1), (0, 1)), ((0,), 1), ((0,), None), ("",), ("a",), 0, None, "0"]:
            self.assertIs(is_poly(6, thing), thing == (), thing)

    def test_letters_beyond(self):
        for many in ALL_MANY:
            self.assertIs(is_poly(many, ((many - 1,),)), True)
            self.assertIs(is_poly(many, ((many,),)), False)

    def test_anything(self):
        for many in ALL_MANY:
            for at, thing in enumerate(strange_things()):
                self.assertIs(is_poly(many, thing), False, at)


class Values(unittest.TestCase):
    def test_degree(self):
        self.assertEqual(degree(()), -1)
        self.assertEqual(degree(((),)), 0)
        self.assertEqual(degree(((), (5,))), 1)
        self.assertEqual(degree(((0,), (3, 4))), 2)
        self.assertEqual(degree(((), (0, 1, 2, 3, 4, 5))), 6)

    def test_value(self):
        for place in range(64):
            self.assertEqual(value((), place), 0)
            self.assertEqual(value(((),), place), 1)
        self.assertEqual([value(((), (0,), (0, 1)), place) for place in range(4)], [1, 0, 1, 1])
        for many in ALL_MANY:
            for poly in some_polys(many):
                for place in range(2 ** many):
                    told = value(poly, place)
                    self.assertIs(type(told), int)
                    self.assertEqual(told, naive_value(poly, place))

    def test_sum_and_product(self):
        for many in ALL_MANY:
            polys = some_polys(many, 4)
            for one in polys:
                for other in polys:
                    both, product = poly_sum(one, other), poly_product(one, other)
                    self.assertIs(is_poly(many, both), True)
                    self.assertIs(is_poly(many, product), True)
                    for place in range(2 ** many):
                        left, right = naive_value(one, place), naive_value(other, place)
                        self.assertEqual(naive_value(both, place), (left + right) % 2)
                        self.assertEqual(naive_value(product, place), left * right)

    def test_sum_by_hand(self):
        self.assertEqual(poly_sum((), ()), ())
        self.assertEqual(poly_sum(((),), ((),)), ())
        self.assertEqual(poly_sum(((2,), (0, 1)), ((), (1,), (0, 1))), ((), (1,), (2,)))

    def test_product_by_hand(self):
        self.assertEqual(poly_product(((0,),), ((0,),)), ((0,),))
        self.assertEqual(poly_product(((0, 2),), ((1, 2),)), ((0, 1, 2),))
        self.assertEqual(poly_product(((0,), (1,)), ((0,), (1,))), ((0,), (1,)))
        self.assertEqual(poly_product(((), (0,)), ((0,),)), ())
        self.assertEqual(poly_product((), ((), (0,))), ())
        self.assertEqual(poly_product(((),), ((), (3,))), ((), (3,)))


class Words(unittest.TestCase):
    def test_all_words_of_few_letters(self):
        for many in (1, 2, 3):
            told = [poly_of(many, word) for word in range(all_of(many) + 1)]
            self.assertEqual(len(set(told)), len(told))
            for word, poly in enumerate(told):
                self.assertIs(is_poly(many, poly), True)
                self.assertEqual(word_by_hand(many, poly), word)
                self.assertEqual(word_of(many, poly), word)

    def test_all_polys_of_few_letters(self):
        for many in (1, 2):
            for at in range(all_of(many) + 1):
                poly = chosen(many, at)
                self.assertEqual(poly_of(many, word_of(many, poly)), poly)

    def test_back_and_forth(self):
        for many in ALL_MANY:
            for word in some_words(many):
                poly = poly_of(many, word)
                self.assertIs(is_poly(many, poly), True)
                self.assertEqual(word_of(many, poly), word)
                self.assertEqual(word, number([naive_value(poly, place) for place in range(2 ** many)]))
            for poly in some_polys(many):
                self.assertEqual(word_of(many, poly), word_by_hand(many, poly))
                self.assertEqual(poly_of(many, word_of(many, poly)), poly)

    def test_by_hand(self):
        self.assertEqual(word_of(1, ((0,),)), 2)
        self.assertEqual(word_of(2, ((), (0, 1))), 7)
        self.assertEqual(poly_of(6, 0), ())
        self.assertEqual(poly_of(6, 2 ** 64 - 1), ((),))
        self.assertEqual(poly_of(6, 2 ** 63), ((0, 1, 2, 3, 4, 5),))
        self.assertEqual(len(poly_of(6, 1)), 64)

    def test_sums_and_products_are_those_of_words(self):
        for many in ALL_MANY:
            words = some_words(many, 4)
            for one in words:
                for other in words:
                    left, right = poly_of(many, one), poly_of(many, other)
                    self.assertEqual(word_of(many, poly_sum(left, right)), plus(one, other))
                    self.assertEqual(poly_of(many, times(one, other)), poly_product(left, right))


if __name__ == "__main__":
    unittest.main()
