import unittest

from functools import partial

from tests.samples import (
    ALL_KINDS, SMALL_KINDS, all_of, all_sums, all_terms, all_words_by_kind, degree_by_hand, faults, mixed, some_words,
    told_or_none, word_by_hand, words_of_kind,
)
from yesnowords.bases import base_of, even_with
from yesnowords.besides import checks
from yesnowords.errors import NoFit, TooFar
from yesnowords.losing import fill, mend_lost


def places_of(word):
    return tuple(place for place in range(64) if word >> place & 1)


def some_lost(many):
    """No place lost, all, one, the first ones, and mixed ones."""
    told = [(), tuple(range(2 ** many)), (0,), (2 ** many - 1,), tuple(range(2 ** many // 2))]
    for count in (2, 3, 2 ** many // 4, 2 ** many // 2, 2 ** many - 2):
        if 0 < count <= 2 ** many:
            told.append(places_of(faults(many, count, seed=count + many)))
    return told


fill_or_none = partial(told_or_none, NoFit, fill)
mend_lost_or_none = partial(told_or_none, TooFar, mend_lost)


def off(word, heard, lost):
    """Twice the places at which both are unlike and that aren't lost, and the lost ones."""
    away = sum(2 ** place for place in lost)
    return 2 * ((word ^ heard) & ~away).bit_count() + len(lost)


class Fill(unittest.TestCase):
    def check_base(self, base):
        self.assertIs(type(base), tuple)
        self.assertEqual(base, base_of(base))

    def test_gone_through(self):
        for kind in SMALL_KINDS:
            words = list(all_words_by_kind(*kind))
            seen = set()
            for lost in some_lost(kind[0]):
                known = all_of(kind[0]) & ~sum(2 ** place for place in lost)
                for heard in words_of_kind(kind, 1)[-2:] + mixed(kind[0], 2) + [1]:
                    fits = [word for word in words if (word ^ heard) & known == 0]
                    told = fill_or_none(kind, heard, lost)
                    seen.add(told is None)
                    self.assertEqual(told is None, fits == [])
                    if told is not None:
                        word, base = told
                        self.assertEqual(word, min(fits))
                        self.check_base(base)
                        self.assertEqual({word ^ other for other in all_sums(base)}, set(fits))
                        self.assertEqual(all_sums(base), {other for other in words if other & known == 0})
            self.assertEqual(seen, {False} if kind[0] == kind[1] else {True, False})

    def test_great_kinds(self):
        for kind in ALL_KINDS:
            many, most = kind
            for lost in some_lost(many):
                away = sum(2 ** place for place in lost)
                for said in words_of_kind(kind, 2)[-2:]:
                    word, base = fill(kind, said ^ mixed(many, 1)[0] & away, lost)
                    self.assertLessEqual(degree_by_hand(many, word), most)
                    self.assertEqual((word ^ said) & ~away, 0)
                    self.check_base(base)
                    # A check of each known place, by itself, and all of the kind: what is even with them is the base.
                    known = tuple(2 ** place for place in range(2 ** many) if place not in lost)
                    self.assertEqual(base, even_with(many, checks(kind) + known))
                    self.assertTrue(all(word >> other.bit_length() - 1 & 1 == 0 for other in base))

    def test_no_place_lost(self):
        for kind in ALL_KINDS:
            for word in words_of_kind(kind, 4):
                self.assertEqual(fill(kind, word, ()), (word, ()))
            for heard in some_words(kind[0]):
                told = (heard, ()) if degree_by_hand(kind[0], heard) <= kind[1] else None
                self.assertEqual(fill_or_none(kind, heard, ()), told)

    def test_all_places_lost(self):
        for kind in ALL_KINDS:
            single = [word_by_hand(kind[0], [term]) for term in all_terms(*kind)]
            for heard in some_words(kind[0], 2):
                word, base = fill(kind, heard, tuple(range(2 ** kind[0])))
                self.assertEqual(word, 0)
                self.assertEqual(base, base_of(tuple(single)))

    def test_what_heard_says_at_lost_places(self):
        for kind in ALL_KINDS:
            for lost in some_lost(kind[0]):
                away = sum(2 ** place for place in lost)
                for heard in words_of_kind(kind, 1)[-1:] + mixed(kind[0], 1):
                    told = fill_or_none(kind, heard, lost)
                    for other in (heard | away, heard & ~away, heard ^ away):
                        self.assertEqual(fill_or_none(kind, other, lost), told)

    def test_by_hand(self):
        self.assertEqual(fill((2, 1), 0b0010, (3,)), (0b1010, ()))
        self.assertEqual(fill((2, 1), 0b1010, (3,)), (0b1010, ()))
        self.assertEqual(fill((2, 1), 0b0010, (2, 3)), (0b0110, (0b1100,)))
        self.assertEqual(fill((2, 0), 0b0001, (1, 2, 3)), (0b1111, ()))
        self.assertEqual(fill((2, 2), 0b0110, (1, 3)), (0b0100, (0b0010, 0b1000)))
        self.assertIsNone(fill_or_none((2, 0), 0b0001, (2, 3)))
        self.assertIsNone(fill_or_none((2, 1), 0b0001, ()))

    def test_just_too_few_lost_to_be_unsure(self):
        for kind in ALL_KINDS:
            least = 2 ** (kind[0] - kind[1])
            for seed in (1, 2, 3):
                lost = places_of(faults(kind[0], least - 1, seed))
                for word in words_of_kind(kind, 2)[-2:]:
                    self.assertEqual(fill(kind, word, lost), (word, ()))


class MendLost(unittest.TestCase):
    def test_gone_through(self):
        for kind in SMALL_KINDS:
            words = list(all_words_by_kind(*kind))
            least = 2 ** (kind[0] - kind[1])
            seen = set()
            for lost in some_lost(kind[0]):
                for heard in words_of_kind(kind, 1)[-2:] + mixed(kind[0], 4):
                    right = [word for word in words if off(word, heard, lost) < least]
                    self.assertLessEqual(len(right), 1)
                    told = mend_lost_or_none(kind, heard, lost)
                    seen.add(told is None)
                    self.assertEqual(told, right[0] if right else None)
            self.assertEqual(seen, {True, False})

    def test_all_words_and_lost_places_of_few_letters(self):
        for many in (1, 2, 3):
            for most in range(many + 1):
                words = list(all_words_by_kind(many, most))
                for away in range(all_of(many) + 1):
                    lost = places_of(away)
                    for heard in mixed(many, 6, seed=away + 1):
                        right = [word for word in words if off(word, heard, lost) < 2 ** (many - most)]
                        self.assertEqual(mend_lost_or_none((many, most), heard, lost), right[0] if right else None)

    def test_as_many_as_are_still_mended(self):
        for kind in ALL_KINDS:
            many, most = kind
            least = 2 ** (many - most)
            for gone in range(least):
                wrong = (least - 1 - gone) // 2
                spots = places_of(faults(many, gone, seed=gone + 1))
                others = [place for place in range(2 ** many) if place not in spots]
                picks = [others[at * 5 % len(others)] for at in range(wrong)] if len(others) % 5 else others[:wrong]
                for word in words_of_kind(kind, 1)[-2:]:
                    heard = word ^ sum(2 ** place for place in set(picks))
                    for other in (heard, heard ^ sum(2 ** place for place in spots)):
                        self.assertEqual(mend_lost(kind, other, spots), word)

    def test_one_more(self):
        for kind in ALL_KINDS:
            many, most = kind
            least = 2 ** (many - most)
            flat = places_of(word_by_hand(many, [tuple(range(most))]))
            for word in words_of_kind(kind, 1)[-2:]:
                # As far from another word as from this one: of the places at which both are unlike some are lost,
                # half of the others false.
                for wrong in range(least // 2 + 1):
                    lost = flat[2 * wrong:]
                    heard = word ^ sum(2 ** place for place in flat[:wrong])
                    self.assertEqual(off(word, heard, lost), least)
                    self.assertIsNone(mend_lost_or_none(kind, heard, lost))

    def test_none_lost_and_all_lost(self):
        for kind in ALL_KINDS:
            least = 2 ** (kind[0] - kind[1])
            for at, word in enumerate(words_of_kind(kind, 3)):
                self.assertEqual(mend_lost(kind, word, ()), word)
                self.assertEqual(mend_lost(kind, word ^ faults(kind[0], (least - 1) // 2, at + 1), ()), word)
                with self.assertRaises(TooFar):
                    mend_lost(kind, word, tuple(range(2 ** kind[0])))

    def test_what_heard_says_at_lost_places(self):
        for kind in ALL_KINDS:
            for lost in some_lost(kind[0]):
                away = sum(2 ** place for place in lost)
                for heard in words_of_kind(kind, 1)[-1:] + mixed(kind[0], 2):
                    told = mend_lost_or_none(kind, heard, lost)
                    for other in (heard | away, heard & ~away, heard ^ away):
                        self.assertEqual(mend_lost_or_none(kind, other, lost), told)

    def test_least_lost_is_too_many(self):
        for kind in ALL_KINDS:
            least = 2 ** (kind[0] - kind[1])
            for seed in (1, 2):
                lost = places_of(faults(kind[0], least, seed))
                for word in words_of_kind(kind, 1)[-2:]:
                    self.assertIsNone(mend_lost_or_none(kind, word, lost))
                    if least > 1:
                        self.assertEqual(mend_lost(kind, word, lost[1:]), word)

    def test_by_hand(self):
        self.assertIsNone(mend_lost_or_none((2, 0), 0b0001, (2, 3)))
        self.assertIsNone(mend_lost_or_none((2, 0), 0b0011, ()))
        self.assertEqual(mend_lost((2, 0), 0b0011, (2, 3)), 0b1111)
        self.assertEqual(mend_lost((2, 0), 0b0011, (0, 1)), 0)
        self.assertEqual(mend_lost((2, 0), 0b0110, (3,)), 0b1111)


if __name__ == "__main__":
    unittest.main()
