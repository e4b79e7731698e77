import unittest

from itertools import product

from tests.samples import (
    ALL_KINDS, LikesAll, all_of, degree_by_hand, is_place_by_hand, nested, number, otherwise, sent_by_hand,
    some_turnings, some_words, strange_things, words_of_kind,
)
from yesnowords.turnings import back, how_many_turnings, is_turning, one_by_one, sent, turned


def turning_by_hand(many, thing):
    """Whether anything is a turning, word for word as it is told what one is."""
    if type(thing) is not tuple or len(thing) != 2 or type(thing[0]) is not tuple or len(thing[0]) != many:
        return False
    if not all(is_place_by_hand(many, place) for place in thing[0] + (thing[1],)):
        return False
    return len({sent_by_hand(thing, place) for place in range(2 ** many)}) == 2 ** many


def still(many):
    return (tuple(2 ** letter for letter in range(many)), 0)


class IsTurning(unittest.TestCase):
    def test_turnings(self):
        for many in range(1, 7):
            for turning in some_turnings(many):
                self.assertTrue(turning_by_hand(many, turning))
                self.assertIs(is_turning(many, turning), True)

    def test_all_of_few_letters(self):
        for many in (1, 2, 3):
            numbers = range(-1, 2 ** many + 1) if many < 3 else range(8)
            for images in product(numbers, repeat=many):
                for shift in numbers:
                    thing = (images, shift)
                    self.assertIs(is_turning(many, thing), turning_by_hand(many, thing))

    def test_one_thing_otherwise(self):
        seen = set()
        for many in range(1, 7):
            for turning in some_turnings(many, 3):
                for thing in otherwise(turning):
                    told = turning_by_hand(many, thing)
                    seen.add(told)
                    self.assertIs(is_turning(many, thing), told, (many, thing))
        self.assertEqual(seen, {True, False})

    def test_read_as_of_another_many(self):
        for many in range(1, 7):
            for turning in some_turnings(many):
                for other in range(1, 7):
                    self.assertIs(is_turning(other, turning), other == many)

    def test_two_places_to_one(self):
        for many in range(2, 7):
            images = list(still(many)[0])
            for at in range(many):
                for spoilt in (0, images[at - 1], sum(images) - images[at]):
                    row = tuple(images[:at] + [spoilt] + images[at + 1:])
                    self.assertIs(is_turning(many, (row, 0)), False)
                    self.assertIs(is_turning(many, (row, 1)), False)
        self.assertIs(is_turning(3, ((3, 5, 6), 0)), False)
        self.assertIs(is_turning(3, ((3, 5, 7), 0)), True)
        self.assertIs(is_turning(1, ((0,), 1)), False)
        self.assertIs(is_turning(1, ((1,), 1)), True)

    def test_beyond_the_places(self):
        self.assertIs(is_turning(2, ((1, 2), 4)), False)
        self.assertIs(is_turning(2, ((1, 2), -1)), False)
        self.assertIs(is_turning(2, ((1, 4), 0)), False)
        self.assertIs(is_turning(2, ((1, -2), 0)), False)
        self.assertIs(is_turning(2, ((1, 6), 0)), False)
        self.assertIs(is_turning(2, ((1, 2, 0), 0)), False)
        self.assertIs(is_turning(2, ((1,), 0)), False)
        self.assertIs(is_turning(2, ((True, 2), 0)), False)
        self.assertIs(is_turning(2, ((1, 2), False)), False)
        self.assertIs(is_turning(2, ([1, 2], 0)), False)
        self.assertIs(is_turning(2, [(1, 2), 0]), False)
        self.assertIs(is_turning(2, ((1, 2), None)), False)
        self.assertIs(is_turning(2, ("12", 0)), False)
        self.assertIs(is_turning(2, ((1, 2), "0")), False)

    def test_anything(self):
        for many in range(1, 7):
            images, shift = still(many)
            for at, thing in enumerate(strange_things()):
                self.assertIs(is_turning(many, thing), False, at)
                self.assertIs(is_turning(many, (images, thing)), False, at)
                self.assertIs(is_turning(many, (thing, shift)), False, at)
                self.assertIs(is_turning(many, (images[:-1] + (thing,), shift)), False, at)
            self.assertIs(is_turning(many, (nested(tuple, 39), 0)), False)
            self.assertIs(is_turning(many, ((LikesAll(),) * many, 0)), False)


class Sent(unittest.TestCase):
    def test_each_place(self):
        for many in range(1, 7):
            for turning in some_turnings(many):
                told = [sent(turning, place) for place in range(2 ** many)]
                self.assertEqual(told, [sent_by_hand(turning, place) for place in range(2 ** many)])
                self.assertEqual(sorted(told), list(range(2 ** many)))

    def test_still_and_shifts(self):
        for many in range(1, 7):
            images, _ = still(many)
            for shift in range(2 ** many):
                for place in (0, 1, 2 ** many - 1, 2 ** many // 2):
                    self.assertEqual(sent((images, 0), place), place)
                    self.assertEqual(sent((images, shift), place), place ^ shift)

    def test_by_hand(self):
        turning = ((3, 6, 4), 1)
        self.assertEqual([sent(turning, place) for place in range(8)], [1, 2, 7, 4, 5, 6, 3, 0])


class Turned(unittest.TestCase):
    def test_place_by_place(self):
        for many in range(1, 7):
            for turning in some_turnings(many):
                for word in some_words(many, 4):
                    told = turned(many, turning, word)
                    by_hand = number([word >> sent_by_hand(turning, place) & 1 for place in range(2 ** many)])
                    self.assertEqual(told, by_hand)

    def test_not_the_other_way(self):
        turning = ((2, 4, 1), 0)
        self.assertEqual(turned(3, turning, 0b00000010), 0b00010000)    # place 1 comes of place 4
        self.assertEqual(turned(2, ((3, 2), 1), 0b0001), 0b1000)
        self.assertEqual(turned(2, ((1, 2), 1), 0b0001), 0b0010)

    def test_still(self):
        for many in range(1, 7):
            for word in some_words(many):
                self.assertEqual(turned(many, still(many), word), word)

    def test_stays_in_its_kind(self):
        for kind in ALL_KINDS:
            many, most = kind
            for turning in some_turnings(many, 3):
                for word in words_of_kind(kind, 2):
                    self.assertLessEqual(degree_by_hand(many, turned(many, turning, word)), most)

    def test_degree_is_kept(self):
        for many in (2, 3, 4):
            for turning in some_turnings(many, 3):
                for word in some_words(many):
                    other = turned(many, turning, word)
                    self.assertEqual(degree_by_hand(many, other), degree_by_hand(many, word))


class OneByOne(unittest.TestCase):
    def test_each_place(self):
        for many in range(1, 7):
            some = some_turnings(many, 4)
            for one in some:
                for other in some:
                    both = one_by_one(one, other)
                    self.assertTrue(turning_by_hand(many, both))
                    for place in range(2 ** many):
                        self.assertEqual(sent_by_hand(both, place), sent_by_hand(other, sent_by_hand(one, place)))

    def test_first_one_then_other(self):
        self.assertEqual(one_by_one(((1, 2), 1), ((2, 1), 0)), ((2, 1), 2))
        self.assertEqual(one_by_one(((2, 1), 0), ((1, 2), 1)), ((2, 1), 1))

    def test_turned_one_by_one(self):
        for many in range(1, 7):
            first, *rest = some_turnings(many, 4)[4:]
            for other in rest:
                for word in some_words(many, 2):
                    both = turned(many, one_by_one(first, other), word)
                    self.assertEqual(both, turned(many, first, turned(many, other, word)))


class Back(unittest.TestCase):
    def test_on_both_sides(self):
        for many in range(1, 7):
            for turning in some_turnings(many, 10):
                told = back(turning)
                self.assertTrue(turning_by_hand(many, told))
                for place in range(2 ** many):
                    self.assertEqual(sent_by_hand(told, sent_by_hand(turning, place)), place)
                    self.assertEqual(sent_by_hand(turning, sent_by_hand(told, place)), place)
                self.assertEqual(one_by_one(turning, told), still(many))
                self.assertEqual(one_by_one(told, turning), still(many))
                self.assertEqual(back(told), turning)

    def test_by_hand(self):
        self.assertEqual(back(((1,), 1)), ((1,), 1))
        self.assertEqual(back(((2, 4, 1), 3)), ((4, 1, 2), 5))

    def test_words_turned_back(self):
        for many in range(1, 7):
            for turning in some_turnings(many):
                for word in some_words(many, 2):
                    self.assertEqual(turned(many, back(turning), turned(many, turning, word)), word)


class HowManyTurnings(unittest.TestCase):
    def test_gone_through(self):
        for many in (1, 2, 3):
            ways = set()
            for images in product(range(2 ** many), repeat=many):
                for shift in range(2 ** many):
                    ways.add(tuple(sent_by_hand((images, shift), place) for place in range(2 ** many)))
            told = [way for way in ways if len(set(way)) == 2 ** many]
            self.assertEqual(how_many_turnings(many), len(told))

    def test_told_ones(self):
        told = [how_many_turnings(many) for many in range(1, 7)]
        self.assertEqual(told, [2, 24, 1344, 322560, 319979520, 1290157424640])


class WordsOfOneKind(unittest.TestCase):
    def test_all_yes_and_none(self):
        for many in range(1, 7):
            for turning in some_turnings(many):
                self.assertEqual(turned(many, turning, 0), 0)
                self.assertEqual(turned(many, turning, all_of(many)), all_of(many))


if __name__ == "__main__":
    unittest.main()
