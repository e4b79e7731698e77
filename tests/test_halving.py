import unittest

from functools import partial

from tests.samples import (
    ALL_KINDS, SMALL_KINDS, all_of, all_words_by_kind, faults, near_words, some_heard, some_words, told_or_none,
    word_by_hand, words_of_kind,
)
from yesnowords.errors import NoMost, TooFar
from yesnowords.halving import mend_by_halves
from yesnowords.mending import mend


by_halves_or_none = partial(told_or_none, TooFar, mend_by_halves)


def by_votes_or_none(kind, heard):
    try:
        return mend(kind, heard)[0]
    except (NoMost, TooFar):
        return None


class MendByHalves(unittest.TestCase):
    def test_as_mend_does(self):
        for kind in ALL_KINDS:
            seen = set()
            for heard in some_heard(kind):
                told = by_halves_or_none(kind, heard)
                seen.add(told is None)
                self.assertEqual(told, by_votes_or_none(kind, heard))
                self.assertEqual(by_halves_or_none(kind, heard), told)
            self.assertEqual(seen, {False} if kind[0] == kind[1] else {True, False})

    def test_all_words_of_few_letters(self):
        for many in (1, 2, 3):
            for most in range(many + 1):
                words = list(all_words_by_kind(many, most))
                for heard in range(all_of(many) + 1):
                    near = [word for word in words if 2 * (word ^ heard).bit_count() < 2 ** (many - most)]
                    self.assertEqual(by_halves_or_none((many, most), heard), near[0] if near else None)

    def test_gone_through(self):
        for kind in SMALL_KINDS + [(4, 2)]:
            for heard in some_heard(kind):
                near = near_words(kind, heard)
                self.assertEqual(by_halves_or_none(kind, heard), near[0] if near else None)

    def test_as_many_faults_as_are_mended(self):
        for kind in ALL_KINDS:
            mended = (2 ** (kind[0] - kind[1]) - 1) // 2
            for at, word in enumerate(words_of_kind(kind, 4)):
                for count in range(mended + 1):
                    told = mend_by_halves(kind, word ^ faults(kind[0], count, seed=at + count + 1))
                    self.assertEqual(told, word)
                    self.assertIs(type(told), int)

    def test_faults_in_one_half_alone(self):
        for kind in ALL_KINDS:
            many, most = kind
            mended = (2 ** (many - most) - 1) // 2
            if many > 1:
                for word in words_of_kind(kind, 2)[-3:]:
                    low = faults(many - 1, mended, seed=7)
                    self.assertEqual(mend_by_halves(kind, word ^ low), word)
                    self.assertEqual(mend_by_halves(kind, word ^ low << 2 ** (many - 1)), word)

    def test_halfway_to_another_word(self):
        for kind in ALL_KINDS:
            many, most = kind
            if most < many:
                flat = word_by_hand(many, [tuple(range(most))])
                places = [place for place in range(2 ** many) if flat >> place & 1]
                for word in words_of_kind(kind, 2)[-3:]:
                    with self.assertRaises(TooFar):
                        mend_by_halves(kind, word ^ sum(2 ** place for place in places[::2]))

    def test_most_0(self):
        for many in range(1, 7):
            for count in range(2 ** many + 1):
                heard = faults(many, count, seed=count + 1)
                told = None if 2 * count == 2 ** many else all_of(many) if 2 * count > 2 ** many else 0
                self.assertEqual(by_halves_or_none((many, 0), heard), told)

    def test_most_many(self):
        for many in range(1, 7):
            for heard in some_words(many):
                self.assertEqual(mend_by_halves((many, many), heard), heard)

    def test_near_or_refused(self):
        for kind in ALL_KINDS:
            for heard in some_words(kind[0], 30):
                told = by_halves_or_none(kind, heard)
                if told is not None:
                    self.assertLess(2 * (told ^ heard).bit_count(), 2 ** (kind[0] - kind[1]))


if __name__ == "__main__":
    unittest.main()
