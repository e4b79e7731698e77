import unittest

from tests.samples import (
    ALL_KINDS, SMALL_KINDS, LikesAll, all_of, all_terms, faults, near_words, nested, otherwise, some_heard, some_words,
    strange_things, word_by_hand, words_of_kind,
)
from yesnowords.errors import NoMost, TooFar
from yesnowords.mending import mend, votes
from yesnowords.mendlooks import shows_mended


def votes_by_hand(many, heard, term):
    """The sums for each setting of the other letters, each place by itself."""
    mask = sum(2 ** letter for letter in term)
    told = []
    for setting in range(2 ** many):
        if setting & mask == 0:
            told.append(sum(heard >> place & 1 for place in range(2 ** many) if place & ~mask == setting) % 2)
    return tuple(told)


def terms_down(kind):
    every = all_terms(*kind)
    return [term for size in range(kind[1], -1, -1) for term in every if len(term) == size]


def mend_by_hand(kind, heard):
    """(outcome, term, word, rows), rows of all terms; where as many votes are yes as no, the term isn't chosen."""
    many, most = kind
    rows, chosen, ties = [], [], []
    for term in terms_down(kind):
        left = heard ^ word_by_hand(many, [other for other in chosen if len(other) > len(term)])
        cast = votes_by_hand(many, left, term)
        yes = sum(cast)
        rows.append((term, len(cast) - yes, yes))
        if 2 * yes == len(cast):
            ties.append(term)
        elif 2 * yes > len(cast):
            chosen.append(term)
    word = word_by_hand(many, chosen)
    if ties:
        return ("no most", ties[0], word, tuple(rows))
    if 2 * (word ^ heard).bit_count() >= 2 ** (many - most):
        return ("too far", None, word, tuple(rows))
    return ("mended", None, word, tuple(rows))


class Votes(unittest.TestCase):
    def test_every_term(self):
        for many in range(1, 7):
            for word in some_words(many, 3):
                for term in all_terms(many, many):
                    if many < 5 or len(term) <= 2 or len(term) >= many - 1:
                        told = votes(many, word, term)
                        self.assertIs(type(told), tuple)
                        self.assertTrue(all(type(vote) is int for vote in told))
                        self.assertEqual(len(told), 2 ** (many - len(term)))
                        self.assertEqual(told, votes_by_hand(many, word, term))

    def test_empty_term_and_all_letters(self):
        for many in range(1, 7):
            for word in some_words(many):
                self.assertEqual(votes(many, word, ()), tuple(word >> place & 1 for place in range(2 ** many)))
                self.assertEqual(votes(many, word, tuple(range(many))), (word.bit_count() % 2,))

    def test_by_hand(self):
        self.assertEqual(votes(2, 0b0110, (0,)), (1, 1))
        self.assertEqual(votes(2, 0b0010, (0,)), (1, 0))
        self.assertEqual(votes(2, 0b0010, (1,)), (0, 1))
        self.assertEqual(votes(3, 0b00000001, (0, 2)), (1, 0))
        self.assertEqual(votes(3, 0b00100000, (1,)), (0, 0, 0, 1))

    def test_of_words_of_a_kind(self):
        for kind in ALL_KINDS:
            many, most = kind
            for word in words_of_kind(kind, 3):
                for term in all_terms(*kind):
                    if len(term) == most:
                        self.assertEqual(len(set(votes(many, word, term))), 1)


class Mend(unittest.TestCase):
    def check_mend(self, kind, heard):
        outcome, term, word, rows = mend_by_hand(kind, heard)
        if outcome == "mended":
            told = mend(kind, heard)
            self.assertIs(type(told), tuple)
            self.assertEqual(told, (word, rows))
            self.assertIs(type(told[1]), tuple)
            self.assertEqual(mend(kind, heard), told)
            return outcome
        with self.assertRaises((NoMost, TooFar)) as caught:
            mend(kind, heard)
        if outcome == "no most":
            self.assertIs(type(caught.exception), NoMost)
            self.assertEqual(caught.exception.term, term)
            self.assertIs(type(caught.exception.term), tuple)
        else:
            self.assertIs(type(caught.exception), TooFar)
        return outcome

    def test_all_kinds(self):
        seen = {self.check_mend(kind, heard) for kind in ALL_KINDS for heard in some_heard(kind)}
        self.assertEqual(seen, {"mended", "no most", "too far"})

    def test_all_words_of_few_letters(self):
        seen = set()
        for many in (1, 2, 3):
            for most in range(many + 1):
                for heard in range(all_of(many) + 1):
                    seen.add(self.check_mend((many, most), heard))
        self.assertEqual(seen, {"mended", "no most"})

    def test_as_many_faults_as_are_mended(self):
        for kind in ALL_KINDS:
            many, most = kind
            mended = (2 ** (many - most) - 1) // 2
            for at, word in enumerate(words_of_kind(kind, 4)):
                for count in sorted({0, mended // 2, mended}):
                    told, rows = mend(kind, word ^ faults(many, count, seed=at + 1))
                    self.assertEqual(told, word)
                    self.assertEqual([row[0] for row in rows], terms_down(kind))
                    for term, no, yes in rows:
                        self.assertEqual(no + yes, 2 ** (many - len(term)))
                        self.assertEqual(yes > no, word_stands(many, word, term))

    def test_one_fault_more(self):
        for kind in ALL_KINDS:
            many, most = kind
            if most < many:
                half = 2 ** (many - most - 1)
                flat = word_by_hand(many, [tuple(range(most))])
                for word in words_of_kind(kind, 2):
                    # Halfway to another word of the kind: none is nearer than half.
                    places = [place for place in range(2 ** many) if flat >> place & 1]
                    heard = word ^ sum(2 ** place for place in places[:half])
                    self.assertNotEqual(self.check_mend(kind, heard), "mended")

    def test_by_hand(self):
        self.assertEqual(mend((1, 0), 0b11), (0b11, (((), 0, 2),)))
        self.assertEqual(mend((2, 0), 0b0100), (0, (((), 3, 1),)))
        self.assertEqual(mend((1, 1), 0b10), (0b10, (((0,), 0, 1), ((), 2, 0))))
        self.assertEqual(
            mend((3, 1), 0b10101011), (0b10101010, (((0,), 1, 3), ((1,), 3, 1), ((2,), 3, 1), ((), 7, 1))))
        for heard, term in ((0b10101001, (1,)), (0b10001000, (0,)), (0b10100000, (0,)), (0b10010000, (0,))):
            with self.assertRaises(NoMost) as caught:
                mend((3, 1), heard)
            self.assertEqual(caught.exception.term, term)
        with self.assertRaises(NoMost) as caught:
            mend((2, 0), 0b0110)
        self.assertEqual(caught.exception.term, ())

    def test_too_far_by_hand(self):
        # Of each letter 3 votes of 8 are yes, and 5 of 16 without one: 0 comes out, unlike in 5 places, not below 4.
        heard = 0b0000000100010111
        with self.assertRaises(TooFar) as caught:
            mend((4, 1), heard)
        self.assertIs(type(caught.exception), TooFar)
        rows = (((0,), 5, 3), ((1,), 5, 3), ((2,), 5, 3), ((3,), 5, 3), ((), 11, 5))
        self.assertIs(shows_mended((4, 1), heard, (0, rows)), False)

    def test_term_of_the_tie_is_the_first(self):
        seen = set()
        for most in (1, 2):
            for heard in range(256):
                outcome, term, word, rows = mend_by_hand((3, most), heard)
                if outcome == "no most":
                    seen.add(term)
                    with self.assertRaises(NoMost) as caught:
                        mend((3, most), heard)
                    self.assertEqual(caught.exception.term, term)
        self.assertGreater(len(seen), 2)

    def test_most_many(self):
        for many in range(1, 7):
            for heard in some_words(many):
                told, rows = mend((many, many), heard)
                self.assertEqual(told, heard)
                self.assertTrue(all(no == 0 or yes == 0 for term, no, yes in rows))

    def test_gone_through(self):
        for kind in SMALL_KINDS:
            for heard in some_heard(kind):
                near = near_words(kind, heard)
                if near:
                    self.assertEqual(mend(kind, heard)[0], near[0])
                else:
                    with self.assertRaises((NoMost, TooFar)):
                        mend(kind, heard)


def word_stands(many, word, term):
    """Whether the term stands in the word's polynomial."""
    mask = sum(2 ** letter for letter in term)
    return sum(word >> place & 1 for place in range(2 ** many) if place & ~mask == 0) % 2 == 1


class ShowsMended(unittest.TestCase):
    def test_what_mend_tells(self):
        for kind in ALL_KINDS:
            for heard in some_heard(kind):
                outcome, term, word, rows = mend_by_hand(kind, heard)
                self.assertIs(shows_mended(kind, heard, (word, rows)), outcome == "mended")

    def test_all_words_of_few_letters(self):
        for many in (1, 2, 3):
            for most in range(many + 1):
                for heard in range(all_of(many) + 1):
                    outcome, term, word, rows = mend_by_hand((many, most), heard)
                    self.assertIs(shows_mended((many, most), heard, (word, rows)), outcome == "mended")

    def test_one_thing_otherwise(self):
        for kind in ALL_KINDS:
            mended = (2 ** (kind[0] - kind[1]) - 1) // 2
            for at, word in enumerate(words_of_kind(kind, 1)[-1:] + [0]):
                heard = word ^ faults(kind[0], mended, seed=at + 5)
                told = mend(kind, heard)
                self.assertIs(shows_mended(kind, heard, told), True)
                for number, thing in enumerate(otherwise(told)):
                    if kind[0] < 5 or number % 7 == 0:
                        self.assertIs(shows_mended(kind, heard, thing), False, thing)

    def test_rows_otherwise(self):
        kind, heard = (3, 1), 0b10101011
        word, rows = mend(kind, heard)
        self.assertIs(shows_mended(kind, heard, (word, rows)), True)
        for thing in (
                (word, rows[1:]), (word, rows[:-1]), (word, rows + rows[-1:]), (word, rows[:1] + rows), (word, ()),
                (word, (rows[1], rows[0]) + rows[2:]), (word, rows[::-1]), (word, list(rows)), [word, rows], (word,),
                (word, rows, rows), (rows, word), (word ^ 1, rows), (heard, rows), (word ^ 255, rows), rows,
                (word, (((0,), 3, 1),) + rows[1:]), (word, (((0,), 1, 4),) + rows[1:]), (word, (((1,), 1, 3),) + rows[1:]),
                (word, (((0,), True, 3),) + rows[1:]), (word, (([0], 1, 3),) + rows[1:]), (word, ([(0,), 1, 3],) + rows[1:]),
                (word, (((0,), 1, 3, 0),) + rows[1:]), (word, (((0,), 1),) + rows[1:]), (word, (((False,), 1, 3),) + rows[1:]),
                (word, (((0,), 1.0, 3),) + rows[1:]), (float(word), rows), (word + 256, rows), (None, rows), (word, None),
                (LikesAll(), rows), (word, LikesAll()), (word, (LikesAll(),) + rows[1:])):
            self.assertIs(shows_mended(kind, heard, thing), False, thing)

    def test_truth_for_a_word(self):
        self.assertEqual((False, mend((1, 1), 0)[1]), mend((1, 1), 0))
        self.assertIs(shows_mended((1, 1), 0, (False, mend((1, 1), 0)[1])), False)
        self.assertIs(shows_mended((1, 1), 1, (True, mend((1, 1), 1)[1])), False)

    def test_of_another_word_heard(self):
        for kind in ALL_KINDS:
            told = {heard: mend_by_hand(kind, heard) for heard in some_heard(kind)[:14]}
            for heard, (outcome, _, word, rows) in told.items():
                for other in told:
                    same = outcome == "mended" and told[other][0] == "mended" and told[other][2:] == (word, rows)
                    self.assertIs(shows_mended(kind, other, (word, rows)), same)

    def test_of_another_kind(self):
        for many, most in ALL_KINDS:
            thing = mend((many, most), 0)
            for kind in ALL_KINDS:
                self.assertIs(shows_mended(kind, 0, thing), kind == (many, most))

    def test_where_mend_refuses(self):
        refused = {"no most": 0, "too far": 0}
        for kind in ALL_KINDS:
            for heard in some_heard(kind):
                outcome, term, word, rows = mend_by_hand(kind, heard)
                if outcome != "mended":
                    refused[outcome] += 1
                    for thing in ((word, rows), (heard, rows), (word, rows[:-1]), (0, rows), (word, ()), None):
                        self.assertIs(shows_mended(kind, heard, thing), False)
        self.assertTrue(all(refused.values()))

    def test_anything(self):
        for kind in ALL_KINDS:
            word, rows = mend(kind, 0)
            for at, thing in enumerate(strange_things()):
                self.assertIs(shows_mended(kind, 0, thing), False, at)
                self.assertIs(shows_mended(kind, 0, (0, thing)), False, at)
                self.assertIs(shows_mended(kind, 0, (thing, rows)), False, at)
                self.assertIs(shows_mended(kind, 0, (0, (thing,) + rows[1:])), False, at)
                self.assertIs(shows_mended(kind, 0, (0, ((thing,) + rows[0][1:],) + rows[1:])), False, at)
                self.assertIs(shows_mended(kind, 0, (0, (rows[0][:2] + (thing,),) + rows[1:])), False, at)
            for thing in (nested(tuple, 40), (0, nested(tuple, 39)), (0, ((nested(tuple, 37), 0, 1),)), nested(list, 40)):
                self.assertIs(shows_mended(kind, 0, thing), False)


if __name__ == "__main__":
    unittest.main()
