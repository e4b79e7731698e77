import unittest

from itertools import combinations, product

from tests.samples import (
    LikesAll, all_of, is_place_by_hand, mixed, nested, number, otherwise, places_by_hand, some_flats, some_words, strange_things,
)
from yesnowords.flats import flat_of, flat_places, flat_word, flats_along, how_many_flats, is_flat


def flat_by_hand(many, thing):
    """Whether anything is a flat, word for word as it is told what one is."""
    if type(thing) is not tuple or len(thing) != 2:
        return False
    place, directions = thing
    if not is_place_by_hand(many, place) or type(directions) is not tuple:
        return False
    if not all(is_place_by_hand(many, one) and one > 0 for one in directions):
        return False
    tops = [len(format(one, "b")) - 1 for one in directions]
    others_lack_it = all(
        one >> top & 1 == 0 for at, top in enumerate(tops) for other, one in enumerate(directions) if other != at)
    return list(directions) == sorted(set(directions)) and others_lack_it and all(place >> top & 1 == 0 for top in tops)


def all_flats(many, d):
    """The sets of places of all flats of d directions, gone through one by one."""
    told = set()
    for directions in combinations(range(1, 2 ** many), d):
        for place in range(2 ** many):
            told.add(frozenset(places_by_hand((place, directions))))
    return {places for places in told if len(places) == 2 ** d}


def all_some_flats(count=3):
    return [(many, flat) for many in range(1, 7) for d in range(many + 1) for flat in some_flats(many, d, count)]


class IsFlat(unittest.TestCase):
    def test_flats(self):
        for many, flat in all_some_flats():
            self.assertTrue(flat_by_hand(many, flat))
            self.assertIs(is_flat(many, flat), True)

    def test_all_small_things(self):
        for many in (1, 2, 3):
            numbers = range(-1, 2 ** many + 1)
            for size in range(4):
                for directions in product(numbers, repeat=size):
                    for place in numbers:
                        thing = (place, directions)
                        self.assertIs(is_flat(many, thing), flat_by_hand(many, thing), (many, thing))

    def test_one_thing_otherwise(self):
        seen = set()
        for many, flat in all_some_flats(2):
            for thing in otherwise(flat):
                told = flat_by_hand(many, thing)
                seen.add(told)
                self.assertIs(is_flat(many, thing), told, (many, thing))
        self.assertEqual(seen, {True, False})

    def test_read_as_of_another_many(self):
        for many, flat in all_some_flats():
            for other in range(1, 7):
                self.assertIs(is_flat(other, flat), flat_by_hand(other, flat))
        self.assertIs(is_flat(2, (0, (4,))), False)
        self.assertIs(is_flat(3, (0, (4,))), True)
        self.assertIs(is_flat(2, (4, ())), False)
        self.assertIs(is_flat(6, (63, ())), True)
        self.assertIs(is_flat(6, (64, ())), False)

    def test_edges(self):
        self.assertIs(is_flat(3, (0, ())), True)
        self.assertIs(is_flat(3, (0, (1, 2, 4))), True)
        self.assertIs(is_flat(3, (1, (1,))), False)             # the place has a direction's greatest digit
        self.assertIs(is_flat(3, (1, (3,))), True)              # another digit it may have
        self.assertIs(is_flat(3, (0, (2, 1))), False)           # not rising
        self.assertIs(is_flat(3, (0, (1, 1))), False)
        self.assertIs(is_flat(3, (0, (0, 1))), False)
        self.assertIs(is_flat(3, (0, (0,))), False)
        self.assertIs(is_flat(3, (0, (1, 3))), False)           # a greatest digit that is another one's, too
        self.assertIs(is_flat(3, (0, (3, 4, 7))), False)
        self.assertIs(is_flat(3, (0, (8,))), False)
        self.assertIs(is_flat(3, (8, ())), False)
        self.assertIs(is_flat(3, (-1, ())), False)
        self.assertIs(is_flat(3, (0, (-1,))), False)
        self.assertIs(is_flat(3, (0, [1])), False)
        self.assertIs(is_flat(3, [0, (1,)]), False)
        self.assertIs(is_flat(3, (False, (1,))), False)
        self.assertIs(is_flat(3, (0, (True,))), False)
        self.assertIs(is_flat(3, (0,)), False)
        self.assertIs(is_flat(3, (0, (1,), 0)), False)
        self.assertIs(is_flat(3, (0, 1)), False)
        self.assertIs(is_flat(3, (0, "1")), False)
        self.assertIs(is_flat(3, (0, None)), False)

    def test_anything(self):
        for many in range(1, 7):
            for at, thing in enumerate(strange_things()):
                self.assertIs(is_flat(many, thing), False, at)
                self.assertIs(is_flat(many, (0, thing)), False, at)
                self.assertIs(is_flat(many, (thing, ())), False, at)
                self.assertIs(is_flat(many, (0, (thing,))), False, at)
                self.assertIs(is_flat(many, (0, (1, thing))), False, at)
            self.assertIs(is_flat(many, (nested(tuple, 39), nested(tuple, 39))), False)
            self.assertIs(is_flat(many, (0, nested(tuple, 39))), False)
            self.assertIs(is_flat(many, (LikesAll(), (LikesAll(),))), False)


class FlatPlaces(unittest.TestCase):
    def test_by_hand(self):
        self.assertEqual(flat_places((5, ())), (5,))
        self.assertEqual(flat_places((0, ())), (0,))
        self.assertEqual(flat_places((0, (1, 2))), (0, 1, 2, 3))
        self.assertEqual(flat_places((1, (6,))), (1, 7))
        self.assertEqual(flat_places((2, (5, 8))), (2, 7, 10, 15))

    def test_mixed_ones(self):
        for many, flat in all_some_flats():
            told = flat_places(flat)
            self.assertIs(type(told), tuple)
            self.assertEqual(list(told), sorted(places_by_hand(flat)))
            self.assertEqual(len(told), 2 ** len(flat[1]))
            self.assertEqual(told[0], flat[0])
            self.assertEqual(flat_places(flat), told)

    def test_all_directions(self):
        for many in range(1, 7):
            whole = (0, tuple(2 ** letter for letter in range(many)))
            self.assertEqual(flat_places(whole), tuple(range(2 ** many)))

    def test_unlike_flats_have_unlike_places(self):
        for many in (1, 2, 3):
            places = range(2 ** many)
            things = [(place, row) for size in range(many + 1) for row in product(places, repeat=size) for place in places]
            flats = [thing for thing in things if flat_by_hand(many, thing)]
            self.assertEqual(len({flat_places(flat) for flat in flats}), len(flats))


class FlatWord(unittest.TestCase):
    def test_just_its_places(self):
        for many, flat in all_some_flats():
            places = places_by_hand(flat)
            self.assertEqual(flat_word(flat), number([place in places for place in range(2 ** many)]))

    def test_by_hand(self):
        self.assertEqual(flat_word((0, ())), 1)
        self.assertEqual(flat_word((63, ())), 2 ** 63)
        self.assertEqual(flat_word((1, (6,))), 0b10000010)
        self.assertEqual(flat_word((0, (1, 2, 4, 8, 16, 32))), all_of(6))


class FlatOf(unittest.TestCase):
    def test_back_and_forth(self):
        for many, flat in all_some_flats():
            word = number([place in places_by_hand(flat) for place in range(2 ** many)])
            self.assertEqual(flat_of(many, word), flat)
            self.assertIs(type(flat_of(many, word)[1]), tuple)

    def test_none(self):
        for many in range(1, 7):
            self.assertIsNone(flat_of(many, 0))
        self.assertIsNone(flat_of(2, 0b0111))
        self.assertIsNone(flat_of(3, 0b01111111))
        self.assertIsNone(flat_of(3, 0b00010111))               # four places, and no flat
        self.assertIsNone(flat_of(4, 0b1000000000000111))
        self.assertIsNone(flat_of(6, all_of(6) - 1))
        self.assertIsNone(flat_of(3, 0b10010111))
        self.assertIsNone(flat_of(3, 0b01111000))

    def test_by_hand(self):
        self.assertEqual(flat_of(3, 0b10010110), (1, (3, 5)))
        self.assertEqual(flat_of(3, 0b10000001), (0, (7,)))
        self.assertEqual(flat_of(3, 0b01101001), (0, (3, 5)))
        self.assertEqual(flat_of(1, 0b10), (1, ()))

    def test_all_words_of_few_letters(self):
        for many in (1, 2, 3):
            flats = {}
            for d in range(many + 1):
                for places in all_flats(many, d):
                    flats[sum(2 ** place for place in places)] = d
            for word in range(all_of(many) + 1):
                told = flat_of(many, word)
                if word in flats:
                    self.assertTrue(flat_by_hand(many, told))
                    self.assertEqual(len(told[1]), flats[word])
                    self.assertEqual(sum(2 ** place for place in places_by_hand(told)), word)
                else:
                    self.assertIsNone(told)

    def test_a_flat_and_a_place_otherwise(self):
        for many, flat in all_some_flats(1):
            word = sum(2 ** place for place in places_by_hand(flat))
            for place in range(2 ** many):
                other = word ^ 1 << place
                if other.bit_count() > 2:
                    self.assertIsNone(flat_of(many, other))

    def test_as_many_places_as_a_flat_has(self):
        for many in (4, 5, 6):
            for word in some_words(many):
                if word.bit_count() not in (1, 2, 4, 8, 16, 32, 64):
                    self.assertIsNone(flat_of(many, word))
            for d in range(2, many):
                for flat in some_flats(many, d, 1):
                    places = places_by_hand(flat)
                    beyond = min(set(range(2 ** many)) - places)
                    moved = places - {max(places)} | {beyond}
                    self.assertIsNone(flat_of(many, sum(2 ** place for place in moved)))


class FlatsAlong(unittest.TestCase):
    def test_by_hand(self):
        self.assertEqual(flats_along(2, ()), ((0, ()), (1, ()), (2, ()), (3, ())))
        self.assertEqual(flats_along(2, (1, 2)), ((0, (1, 2)),))
        self.assertEqual(flats_along(2, (3,)), ((0, (3,)), (1, (3,))))
        self.assertEqual(flats_along(3, (2, 4)), ((0, (2, 4)), (1, (2, 4))))
        self.assertEqual(flats_along(3, (3,)), ((0, (3,)), (1, (3,)), (4, (3,)), (5, (3,))))

    def test_each_place_in_just_one(self):
        for many, (_, directions) in all_some_flats(1):
            told = flats_along(many, directions)
            self.assertIs(type(told), tuple)
            self.assertEqual(len(told), 2 ** (many - len(directions)))
            self.assertEqual(list(told), sorted(told))
            self.assertTrue(all(flat_by_hand(many, flat) and flat[1] == directions for flat in told))
            places = [place for flat in told for place in places_by_hand(flat)]
            self.assertEqual(sorted(places), list(range(2 ** many)))

    def test_all_of_them(self):
        for many, (place, directions) in all_some_flats():
            self.assertIn((place, directions), flats_along(many, directions))


class HowManyFlats(unittest.TestCase):
    def test_gone_through(self):
        for many in (1, 2, 3, 4):
            for d in range(many + 1):
                self.assertEqual(how_many_flats(many, d), len(all_flats(many, d)))

    def test_great_ones(self):
        def spaces(many, d):
            if d in (0, many):
                return 1
            return spaces(many - 1, d - 1) + 2 ** d * spaces(many - 1, d)
        for many in range(1, 7):
            for d in range(many + 1):
                told = how_many_flats(many, d)
                self.assertIs(type(told), int)
                self.assertEqual(told, 2 ** (many - d) * spaces(many, d))

    def test_by_hand(self):
        for many in range(1, 7):
            self.assertEqual(how_many_flats(many, 0), 2 ** many)
            self.assertEqual(how_many_flats(many, many), 1)
            self.assertEqual(how_many_flats(many, 1), 2 ** many * (2 ** many - 1) // 2)
            self.assertEqual(how_many_flats(many, many - 1), 2 * (2 ** many - 1))
        self.assertEqual([how_many_flats(6, d) for d in range(7)], [64, 2016, 10416, 11160, 2604, 126, 1])

    def test_directions_of_all_flats_along(self):
        for many in (1, 2, 3):
            bases = {}
            for size in range(many + 1):
                rows = [row for row in combinations(range(1, 2 ** many), size) if flat_by_hand(many, (0, row))]
                bases[size] = rows
                self.assertEqual(sum(len(flats_along(many, row)) for row in rows), how_many_flats(many, size))


class MixedWords(unittest.TestCase):
    def test_flat_of_tells_the_word_or_none(self):
        for many in range(1, 7):
            for word in some_words(many) + mixed(many, 40, seed=9):
                told = flat_of(many, word)
                if told is not None:
                    self.assertTrue(flat_by_hand(many, told))
                    self.assertEqual(flat_word(told), word)


if __name__ == "__main__":
    unittest.main()
