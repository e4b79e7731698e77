import unittest

from tests.samples import (
    ALL_KINDS, LikesAll, all_of, all_words_by_kind, degree_by_hand, mixed, some_words, strange_things, words_of_kind,
)
from yesnowords.lightlooks import shows_light
from yesnowords.lights import least, light_paper, near


def weight_by_hand(word):
    return bin(word).count("1")


def halves_by_hand(many, word):
    half = 2 ** (many - 1)
    return word % 2 ** half, word // 2 ** half


def paper_by_hand(kind, word):
    """The paper of point 9 of a word of the kind, None where none can be formed."""
    many, most = kind
    if most == 0:
        return ("all",) if word == all_of(many) else None
    if most == many:
        return ("place", (word & -word).bit_length() - 1) if word else None
    low, high = halves_by_hand(many, word)
    head, part = ("twice", paper_by_hand((many - 1, most), low)) if low == high else (
        "sum", paper_by_hand((many - 1, most - 1), low ^ high))
    return None if part is None else (head, part)


class Least(unittest.TestCase):
    def test_all_kinds(self):
        for many, most in ALL_KINDS:
            self.assertEqual(least((many, most)), 2 ** (many - most))
            self.assertIs(type(least((many, most))), int)

    def test_by_all_words(self):
        for many, most in ALL_KINDS:
            if many <= 4 and (many, most) != (4, 4):
                words = [word for word in all_words_by_kind(many, most) if word]
                self.assertEqual(min(map(weight_by_hand, words)), least((many, most)))


class Near(unittest.TestCase):
    def test_all_kinds(self):
        for kind in ALL_KINDS:
            for word in words_of_kind(kind):
                told = near(kind, word)
                self.assertLessEqual(degree_by_hand(kind[0], told), kind[1])
                self.assertLessEqual(0, told)
                self.assertLessEqual(told, all_of(kind[0]))
                self.assertEqual(weight_by_hand(told ^ word), 2 ** (kind[0] - kind[1]))
                self.assertEqual(near(kind, word), told)


class LightPaper(unittest.TestCase):
    def test_by_hand(self):
        self.assertEqual(light_paper((3, 0), 255), ("all",))
        self.assertEqual(light_paper((1, 1), 2), ("place", 1))
        self.assertEqual(light_paper((6, 6), 2 ** 63 + 2 ** 40), ("place", 40))
        self.assertEqual(light_paper((2, 1), 0b1010), ("twice", ("place", 1)))
        self.assertEqual(light_paper((2, 1), 0b1100), ("sum", ("all",)))
        self.assertEqual(light_paper((3, 1), 0b10010110), ("sum", ("all",)))
        self.assertEqual(light_paper((3, 2), 0b10000100), ("sum", ("sum", ("all",))))

    def test_all_kinds_and_forms(self):
        heads = set()
        for kind in ALL_KINDS:
            for word in words_of_kind(kind):
                if word != 0:
                    paper = light_paper(kind, word)
                    heads.add(paper[0])
                    self.assertEqual(paper, paper_by_hand(kind, word))
                    self.assertIs(shows_light(kind, word, paper), True)
        self.assertEqual(heads, {"all", "place", "twice", "sum"})

    def test_all_words_of_small_kinds(self):
        for kind in [(1, 0), (1, 1), (2, 0), (2, 1), (2, 2), (3, 1), (3, 2), (4, 2)]:
            for word in all_words_by_kind(*kind):
                if word != 0:
                    self.assertEqual(light_paper(kind, word), paper_by_hand(kind, word))
                    self.assertIs(shows_light(kind, word, light_paper(kind, word)), True)


def unwrapped(paper):
    """Each paper within this one, with what wraps it."""
    heads = []
    while paper[0] in ("twice", "sum"):
        yield heads, paper
        heads = heads + [paper[0]]
        paper = paper[1]
    yield heads, paper


def wrapped(heads, thing):
    for head in reversed(heads):
        thing = (head, thing)
    return thing


def spoilt(paper):
    """Things like this paper, one thing otherwise somewhere in it."""
    for heads, part in unwrapped(paper):
        head, *rest = part
        others = [
            list(part), part + (0,), part + (None,), part[:-1], (part,), [part], None, True, 1, (), head, (head,) * 3,
            ("twice", part), ("sum", part), (head.upper(), *rest), (head + " ", *rest), (b"all", *rest), (0, *rest),
            (None, *rest), (LikesAll(), *rest), LikesAll(), (True, *rest), {head: rest}, (*rest, head, 0)]
        if head in ("twice", "sum"):
            others += [part[1], ("sum" if head == "twice" else "twice", part[1]), (head, None), (head, [part[1]])]
        if head != "all":
            others += [("all",), (head, LikesAll())]
        if head == "place":
            others += [("place", float(part[1])), ("place", str(part[1])), ("place", (part[1],)), ("place", -1),
                       ("place", part[1] + 64), ("place", 2 ** 70), ("place", None)]
        if head == "all":
            others += [("place", 0), ("all", 0), ("all", ("all",))]
        for other in others:
            if other != part or type(other) is not tuple:
                yield wrapped(heads, other)


class ShowsLight(unittest.TestCase):
    def test_any_yes_place(self):
        for many in range(1, 7):
            for word in some_words(many):
                for place in range(2 ** many):
                    self.assertIs(shows_light((many, many), word, ("place", place)), word >> place & 1 == 1)
                self.assertIs(shows_light((many, many), word, ("place", 2 ** many)), False)

    def test_any_yes_place_within(self):
        for many in range(2, 7):
            for word in mixed(many - 1, 5) + [all_of(many - 1)]:
                whole = word + (word << 2 ** (many - 1))
                for place in range(2 ** many):
                    told = shows_light((many, many - 1), whole, ("twice", ("place", place)))
                    self.assertIs(told, place < 2 ** (many - 1) and word >> place & 1 == 1)

    def test_one_thing_otherwise(self):
        for kind in ALL_KINDS:
            for word in words_of_kind(kind, 4):
                if word != 0:
                    for thing in spoilt(light_paper(kind, word)):
                        self.assertIs(shows_light(kind, word, thing), False)

    def test_truths_for_places(self):
        self.assertEqual(("place", True), ("place", 1))
        for many in range(1, 7):
            self.assertIs(shows_light((many, many), all_of(many), ("place", True)), False)
            self.assertIs(shows_light((many, many), all_of(many), ("place", False)), False)
        self.assertIs(shows_light((2, 1), 0b1111, ("twice", ("place", True))), False)

    def test_any_word_at_all(self):
        for kind in ALL_KINDS:
            for word in some_words(kind[0]):
                paper = paper_by_hand(kind, word)
                if paper is not None:
                    self.assertIs(shows_light(kind, word, paper), True)
                    self.assertGreaterEqual(weight_by_hand(word), 2 ** (kind[0] - kind[1]))
                for other in some_words(kind[0], 4):
                    told = paper_by_hand(kind, other)
                    if told is not None and "place" not in str(told):
                        self.assertIs(shows_light(kind, word, told), told == paper)

    def test_no_paper_can_be_formed(self):
        for kind in ALL_KINDS:
            papers = {paper_by_hand(kind, word) for word in words_of_kind(kind) if word}
            for paper in papers:
                self.assertIs(shows_light(kind, 0, paper), False)
        for many in range(1, 7):
            for word in [0, 1, all_of(many) - 1, all_of(many) >> 1]:
                self.assertIs(shows_light((many, 0), word, ("all",)), False)
            self.assertIs(shows_light((many, 0), all_of(many), ("all",)), True)
        self.assertIs(shows_light((3, 1), 1, ("sum", ("all",))), False)
        self.assertIs(shows_light((3, 1), 0b10000001, ("sum", ("all",))), False)

    def test_shown_words_say_yes_often_enough(self):
        papers = {paper_by_hand((3, most), word) for most in range(4) for word in range(1, 256)} - {None}
        for most in range(4):
            for word in range(256):
                for paper in papers:
                    if shows_light((3, most), word, paper):
                        self.assertGreaterEqual(weight_by_hand(word), 2 ** (3 - most))

    def test_anything(self):
        for kind in ALL_KINDS:
            for word in (0, 1, all_of(kind[0])):
                for at, thing in enumerate(strange_things()):
                    self.assertIs(shows_light(kind, word, thing), False, at)
                    for head in ("all", "place", "twice", "sum"):
                        self.assertIs(shows_light(kind, word, (head, thing)), False, at)

    def test_nested_forty_deep(self):
        for head in ("twice", "sum"):
            thing = ("all",)
            for _ in range(39):
                thing = (head, thing)
            for kind in ALL_KINDS:
                self.assertIs(shows_light(kind, all_of(kind[0]), thing), False)


if __name__ == "__main__":
    unittest.main()
