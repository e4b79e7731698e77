import unittest

from tests.samples import (
    all_of, all_words_by_kind, faults, mixed, nested, nested_dict, otherwise, some_words, strange_things,
    word_by_hand,
)
from yesnowords.firsts import agreements, is_bent, near_steps, nearest, within
from yesnowords.nearlooks import shows_near

ALL_MANY = range(1, 7)
FIRSTS = {many: list(all_words_by_kind(many, 1)) for many in ALL_MANY}


def near_step_by_hand(ahead, letter):
    told = []
    for place in range(len(ahead)):
        if place // 2 ** letter % 2 == 0:
            told.append(ahead[place] + ahead[place + 2 ** letter])
        else:
            told.append(ahead[place - 2 ** letter] - ahead[place])
    return tuple(told)


def agreement_by_hand(many, word, c):
    """At how many places the word is like the sum of c's yes letters, less at how many it isn't."""
    told = 0
    for place in range(2 ** many):
        total = bin(place & c).count("1") % 2
        told += 1 if word >> place & 1 == total else -1
    return told


def far_by_hand(many, word):
    """All words of the kind (many, 1), each with how far it is."""
    return {other: bin(word ^ other).count("1") for other in FIRSTS[many]}


def some_near_firsts(many):
    """Words of most 1 with no fault, one, two and more, and others."""
    told = some_words(many, 6)
    for at, word in enumerate(FIRSTS[many][:: max(1, 2 ** many // 4)]):
        for count in (0, 1, 2, 2 ** many // 4):
            told.append(word ^ faults(many, count, seed=at + 1))
    return told


class NearSteps(unittest.TestCase):
    def test_row_by_row(self):
        for many in ALL_MANY:
            for word in some_near_firsts(many):
                rows = near_steps(many, word)
                self.assertIs(type(rows), tuple)
                self.assertEqual(len(rows), many + 1)
                self.assertEqual(rows[0], tuple(-1 if word >> place & 1 else 1 for place in range(2 ** many)))
                for letter in range(many):
                    self.assertEqual(rows[letter + 1], near_step_by_hand(rows[letter], letter))
                for row in rows:
                    self.assertIs(type(row), tuple)
                    self.assertEqual(len(row), 2 ** many)
                    self.assertTrue(all(type(number) is int for number in row))

    def test_by_hand(self):
        self.assertEqual(near_steps(1, 0b10), ((1, -1), (0, 2)))
        self.assertEqual(near_steps(1, 0b01), ((-1, 1), (0, -2)))
        self.assertEqual(near_steps(2, 0b1000), ((1, 1, 1, -1), (2, 0, 0, 2), (2, 2, 2, -2)))

    def test_all_words_of_few_letters(self):
        for many in (1, 2, 3):
            for word in range(all_of(many) + 1):
                rows = near_steps(many, word)
                for letter in range(many):
                    self.assertEqual(rows[letter + 1], near_step_by_hand(rows[letter], letter))


class Agreements(unittest.TestCase):
    def test_place_by_place(self):
        for many in ALL_MANY:
            for word in some_near_firsts(many)[:: 2 if many > 4 else 1]:
                told = agreements(many, word)
                self.assertIs(type(told), tuple)
                self.assertEqual(told, tuple(agreement_by_hand(many, word, c) for c in range(2 ** many)))
                self.assertEqual(told, near_steps(many, word)[-1])

    def test_squares(self):
        for many in ALL_MANY:
            for word in some_near_firsts(many):
                self.assertEqual(sum(more ** 2 for more in agreements(many, word)), 4 ** many)

    def test_of_sums_of_letters(self):
        for many in ALL_MANY:
            for c in range(2 ** many):
                word = word_by_hand(many, [(letter,) for letter in range(many) if c >> letter & 1])
                told = [0] * 2 ** many
                told[c] = 2 ** many
                self.assertEqual(agreements(many, word), tuple(told))
                told[c] = -2 ** many
                self.assertEqual(agreements(many, word ^ all_of(many)), tuple(told))


class ShowsNear(unittest.TestCase):
    def test_the_rows(self):
        for many in ALL_MANY:
            for word in some_near_firsts(many):
                self.assertIs(shows_near(many, word, near_steps(many, word)), True)
                self.assertIs(shows_near(many, word, tuple(tuple(list(row)) for row in near_steps(many, word))), True)

    def test_one_thing_otherwise(self):
        for many in ALL_MANY:
            for word in (0, all_of(many), mixed(many, 1, seed=5)[0]) if many < 5 else (mixed(many, 1, seed=5)[0],):
                rows = near_steps(many, word)
                for thing in otherwise(rows):
                    # Two alike numbers that stand beside one another may be exchanged.
                    if repr(thing) != repr(rows):
                        self.assertIs(shows_near(many, word, thing), False)

    def test_rows_exchanged(self):
        for many in ALL_MANY:
            rows = near_steps(many, 1)
            for one in range(many + 1):
                for other in range(one):
                    swapped = list(rows)
                    swapped[one], swapped[other] = rows[other], rows[one]
                    self.assertIs(shows_near(many, 1, tuple(swapped)), False)

    def test_truths_for_numbers(self):
        rows = near_steps(2, 0b1000)
        self.assertEqual(((True, 1, 1, -1),) + rows[1:], rows)
        self.assertIs(shows_near(2, 0b1000, ((True, 1, 1, -1),) + rows[1:]), False)
        self.assertIs(shows_near(2, 0b1000, ((1.0, 1, 1, -1),) + rows[1:]), False)
        self.assertIs(shows_near(2, 0b1000, (rows[0], (2, False, 0, 2), rows[2])), False)
        self.assertIs(shows_near(2, 0b1000, (list(rows[0]),) + rows[1:]), False)

    def test_rows_of_another_word(self):
        for many in ALL_MANY:
            words = sorted(set(some_words(many, 4)))
            for word in words:
                for other in words:
                    self.assertIs(shows_near(many, word, near_steps(many, other)), word == other)
        for many in range(1, 6):
            self.assertIs(shows_near(many, 0, near_steps(many + 1, 0)), False)
            self.assertIs(shows_near(many + 1, 0, near_steps(many, 0)), False)

    def test_anything(self):
        for many in ALL_MANY:
            rows = near_steps(many, 1)
            for at, thing in enumerate(strange_things() + [nested(tuple, 40), (nested(tuple, 39),), nested_dict(40)]):
                self.assertIs(shows_near(many, 1, thing), False, at)
                self.assertIs(shows_near(many, 1, rows[:-1] + (thing,)), False, at)
                self.assertIs(shows_near(many, 1, (thing,) + rows[1:]), False, at)
                if type(thing) is not int:
                    self.assertIs(shows_near(many, 1, rows[:-1] + (rows[-1][:-1] + (thing,),)), False, at)


class Nearest(unittest.TestCase):
    def test_gone_through(self):
        for many in ALL_MANY:
            for word in some_near_firsts(many):
                fars = far_by_hand(many, word)
                far, words = nearest(many, word)
                self.assertIs(type(nearest(many, word)), tuple)
                self.assertIs(type(words), tuple)
                self.assertEqual(far, min(fars.values()))
                self.assertEqual(words, tuple(sorted(other for other in fars if fars[other] == far)))

    def test_all_words_of_few_letters(self):
        for many in (1, 2, 3):
            for word in range(all_of(many) + 1):
                fars = far_by_hand(many, word)
                far = min(fars.values())
                self.assertEqual(nearest(many, word), (far, tuple(sorted(o for o in fars if fars[o] == far))))

    def test_of_the_kind_itself(self):
        for many in ALL_MANY:
            for word in FIRSTS[many]:
                self.assertEqual(nearest(many, word), (0, (word,)))

    def test_by_hand(self):
        self.assertEqual(nearest(2, 0b1000), (1, (0b0000, 0b1001, 0b1010, 0b1100)))
        self.assertEqual(nearest(1, 0b01), (0, (0b01,)))
        self.assertEqual(nearest(3, 0b00000001), (1, (0,)))


class Within(unittest.TestCase):
    def test_gone_through(self):
        for many in ALL_MANY:
            size = 2 ** many
            for word in some_near_firsts(many):
                fars = far_by_hand(many, word)
                least = min(fars.values())
                for far in sorted({-2, -1, 0, least - 1, least, least + 1, size // 2, size - 1, size, size + 1}):
                    told = within(many, word, far)
                    self.assertIs(type(told), tuple)
                    self.assertEqual(told, tuple(sorted(other for other in fars if fars[other] <= far)))

    def test_edges(self):
        for many in ALL_MANY:
            for word in some_words(many, 4):
                self.assertEqual(within(many, word, -1), ())
                self.assertEqual(within(many, word, -2 ** 70), ())
                self.assertEqual(within(many, word, 0), (word,) if word in FIRSTS[many] else ())
                self.assertEqual(within(many, word, 2 ** many), tuple(sorted(FIRSTS[many])))
                self.assertEqual(within(many, word, 2 ** many + 1), tuple(sorted(FIRSTS[many])))
                far, words = nearest(many, word)
                self.assertEqual(within(many, word, far), words)
                self.assertEqual(within(many, word, far - 1), ())


class IsBent(unittest.TestCase):
    def test_sums_of_products_of_two_letters(self):
        for many in (2, 4, 6):
            pairs = [(at, at + 1) for at in range(0, many, 2)]
            other_pairs = [(at, at + many // 2) for at in range(many // 2)]
            for poly in (pairs, other_pairs):
                for below in FIRSTS[many][:: 5]:
                    word = word_by_hand(many, poly) ^ below
                    self.assertIs(is_bent(many, word), True)

    def test_with_one_fault(self):
        for many in (2, 4, 6):
            word = word_by_hand(many, [(at, at + 1) for at in range(0, many, 2)])
            for place in range(2 ** many):
                self.assertIs(is_bent(many, word ^ 1 << place), False)

    def test_too_few_pairs(self):
        for many in (4, 6):
            word = word_by_hand(many, [(at, at + 1) for at in range(0, many - 2, 2)])
            self.assertIs(is_bent(many, word), False)

    def test_words_of_most_one(self):
        for many in ALL_MANY:
            for word in FIRSTS[many]:
                self.assertIs(is_bent(many, word), False)

    def test_by_agreements(self):
        for many in ALL_MANY:
            for word in some_near_firsts(many):
                sizes = {abs(agreement_by_hand(many, word, c)) for c in range(2 ** many)}
                self.assertIs(is_bent(many, word), len(sizes) == 1)

    def test_gone_through(self):
        bent = [word for word in range(16) if is_bent(2, word)]
        self.assertEqual(bent, [word for word in range(16) if bin(word).count("1") % 2 == 1])
        self.assertEqual([word for word in range(256) if is_bent(3, word)], [])
        # Of 4 letters 896 words are bent, all of them of degree 2.
        self.assertEqual(sum(is_bent(4, word) for word in all_words_by_kind(4, 2)), 896)


if __name__ == "__main__":
    unittest.main()
