import unittest

from tests.samples import ALL_KINDS, all_of, degree_by_hand, mixed, number, some_words, words_of_kind
from yesnowords.inners import part_kinds, parts, put_in


def inside(one, other):
    """Whether one has no digit 1 but where other has."""
    return one & ~other == 0


def word_of_parts(many, inner, some):
    """The word with these parts, place by place as it is told."""
    told = []
    for place in range(2 ** many):
        first, later = place % 2 ** inner, place // 2 ** inner
        told.append(sum(part >> first & 1 for s, part in enumerate(some) if inside(s, later)) % 2)
    return number(told)


class Parts(unittest.TestCase):
    def test_place_by_place(self):
        for many in range(1, 7):
            for inner in range(1, many + 1):
                for word in some_words(many, 4):
                    told = parts(many, word, inner)
                    self.assertIs(type(told), tuple)
                    self.assertEqual(len(told), 2 ** (many - inner))
                    self.assertTrue(all(type(part) is int and 0 <= part <= all_of(inner) for part in told))
                    self.assertEqual(word_of_parts(many, inner, told), word)

    def test_by_hand(self):
        self.assertEqual(parts(2, 0b0110, 1), (0b10, 0b11))
        self.assertEqual(parts(2, 0b0110, 2), (0b0110,))
        self.assertEqual(parts(3, 0b10000000, 1), (0, 0, 0, 0b10))
        self.assertEqual(parts(3, 0b00000001, 1), (1, 1, 1, 1))
        self.assertEqual(parts(3, 0b00110000, 2), (0, 0b0011))
        self.assertEqual(parts(3, 0b11001010, 1), (0b10, 0, 0b10, 0b11))

    def test_inner_is_many(self):
        for many in range(1, 7):
            for word in some_words(many):
                self.assertEqual(parts(many, word, many), (word,))
                self.assertEqual(put_in(many, many, (word,)), word)


class PutIn(unittest.TestCase):
    def test_back_and_forth(self):
        for many in range(1, 7):
            for inner in range(1, many + 1):
                for word in some_words(many, 4):
                    self.assertEqual(put_in(many, inner, parts(many, word, inner)), word)
                for seed in range(1, 5):
                    some = tuple(mixed(inner, 2 ** (many - inner), seed))
                    word = put_in(many, inner, some)
                    self.assertEqual(word, word_of_parts(many, inner, some))
                    self.assertEqual(parts(many, word, inner), some)

    def test_single_parts(self):
        for many in range(1, 7):
            for inner in range(1, many + 1):
                count = 2 ** (many - inner)
                for s in range(count):
                    some = tuple(all_of(inner) if at == s else 0 for at in range(count))
                    self.assertEqual(put_in(many, inner, some), word_of_parts(many, inner, some))
                self.assertEqual(put_in(many, inner, (0,) * count), 0)


class PartKinds(unittest.TestCase):
    def test_all_kinds(self):
        for kind in ALL_KINDS:
            many, most = kind
            for inner in range(1, many + 1):
                told = part_kinds(kind, inner)
                self.assertIs(type(told), tuple)
                self.assertEqual(len(told), 2 ** (many - inner))
                for s, part_kind in enumerate(told):
                    left = min(inner, most - format(s, "b").count("1"))
                    self.assertEqual(part_kind, None if left < 0 else (inner, left))

    def test_by_hand(self):
        self.assertEqual(part_kinds((3, 1), 1), ((1, 1), (1, 0), (1, 0), None))
        self.assertEqual(part_kinds((3, 3), 2), ((2, 2), (2, 2)))
        self.assertEqual(part_kinds((3, 0), 2), ((2, 0), None))
        self.assertEqual(part_kinds((4, 2), 4), ((4, 2),))

    def test_in_the_kind_just_where_the_parts_are(self):
        for kind in ALL_KINDS:
            many, most = kind
            seen = set()
            above = words_of_kind((many, min(most + 1, many)), 2)[-5:]
            for word in words_of_kind(kind, 2)[-4:] + above + some_words(many, 3):
                for inner in range(1, many + 1):
                    rows = zip(parts(many, word, inner), part_kinds(kind, inner))
                    degrees = [(degree_by_hand(inner, part), -1 if told is None else told[1]) for part, told in rows]
                    within = all(degree <= bound for degree, bound in degrees)
                    seen.add(within)
                    self.assertEqual(within, degree_by_hand(many, word) <= most)
            self.assertEqual(seen, {True} if most == many else {True, False})

    def test_put_in_from_their_kinds(self):
        for kind in ALL_KINDS:
            many, most = kind
            for inner in range(1, many + 1):
                kinds = part_kinds(kind, inner)
                for pick in range(3):
                    some = tuple(0 if told is None else words_of_kind(told, 3)[-1 - pick] for told in kinds)
                    self.assertLessEqual(degree_by_hand(many, put_in(many, inner, some)), most)


if __name__ == "__main__":
    unittest.main()
