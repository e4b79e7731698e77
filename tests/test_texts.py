import unittest

from tests.samples import LikesAll, all_terms, mixed, some_words, strange_things
from yesnowords import errors
from yesnowords.reading import read_heard, read_poly, read_word
from yesnowords.showing import heard_text, poly_text, word_text

ALL_MANY = range(1, 7)
NO_POLYS = [
    "", " ", "0 + 1", "1 + 0", "a + 0", "0 + a", "00", "1 + 1", "11", "a + a", "aa", "ba", "1 + a", "b + ab", "a + b",
    "ab + ab", "ab + a + b", "a + b + 1", "ac + bc", "ab + ac + bc", "a +1", "a+ 1", "a+1", "a  + 1", "a +  1", " a",
    "a ", "a + 1 ", " a + 1", "+", " + ", "+ a", " + a", "a +", "a + ", "a +  + 1", "a + + 1", "A", "AB", "aB", "A + 1",
    "a\n", "\na", "a +\n1", "a + 1\n", "\n", "a\n+ 1", "a1", "1a", "a + b1", "a * b", "a.b", "ab, a", "(a)", "a - 1",
    "-a", "2", "a + 2", "-1", "+1", "01", "10", "a0", "0a", "g", "ag", "z", "x", "?", "a + ?", "_", "a_b", "~", "a|b",
    "abca", "cb + a", "ca", "b a", "a b", "true", "()", "((0,),)", "0 ", " 0", "0\n", "1 ", " 1", "1\n", "a + 1 + 1",
    "a\t+ 1", "ab + 1 + a", "b + a + c", "c + b + a + a", "c + a + b", "ab + bc", "b + b + a",
]


def some_polys(many):
    """The empty one, single terms, all terms, and mixed ones."""
    every = all_terms(many, many)
    told = [(), tuple(every), tuple(every[1:])] + [(term,) for term in every]
    for pick in mixed(6, 12, seed=many):
        told.append(tuple(term for at, term in enumerate(every) if pick >> at & 1))
    return told


def poly_text_by_hand(poly):
    told = ""
    for term in poly:
        signs = "".join("abcdef"[letter] for letter in term) or "1"
        told = signs if told == "" else signs + " + " + told
    return told or "0"


def some_lost(many):
    """No lost places, one, all, and mixed ones."""
    told = [(), (0,), (2 ** many - 1,), tuple(range(2 ** many)), tuple(range(0, 2 ** many, 2))]
    for pick in mixed(many, 4, seed=9):
        told.append(tuple(place for place in range(2 ** many) if pick >> place & 1))
    return told


class Refused(unittest.TestCase):
    def refuses(self, read, many, thing):
        with self.assertRaises(errors.NoText) as caught:
            read(many, thing)
        self.assertIs(type(caught.exception), errors.NoText)


class PolyText(unittest.TestCase):
    def test_written(self):
        self.assertEqual(poly_text(()), "0")
        self.assertEqual(poly_text(((),)), "1")
        self.assertEqual(poly_text(((), (2,), (0, 1))), "ab + c + 1")
        self.assertEqual(poly_text(((0,), (1,), (0, 1), (0, 2))), "ac + ab + b + a")
        self.assertEqual(poly_text(((5,), (0, 1, 2, 3, 4), (0, 1, 2, 3, 4, 5))), "abcdef + abcde + f")
        for at, sign in enumerate("abcdef"):
            self.assertEqual(poly_text(((at,),)), sign)

    def test_each(self):
        for many in ALL_MANY:
            for poly in some_polys(many):
                told = poly_text(poly)
                self.assertIs(type(told), str)
                self.assertEqual(told, poly_text_by_hand(poly))


class ReadPoly(Refused):
    def test_back(self):
        for many in ALL_MANY:
            for poly in some_polys(many):
                for more in range(many, 7):
                    self.assertEqual(read_poly(more, poly_text(poly)), poly)

    def test_all_of_two_letters(self):
        every = all_terms(2, 2)
        read = {}
        for pick in range(16):
            poly = tuple(term for at, term in enumerate(every) if pick >> at & 1)
            read[poly_text(poly)] = poly
        self.assertEqual(len(read), 16)
        from itertools import product
        for size in range(7):
            for signs in product("ab10+ ", repeat=size):
                text = "".join(signs)
                if text in read:
                    self.assertEqual(read_poly(2, text), read[text])
                else:
                    self.refuses(read_poly, 2, text)

    def test_kinds_told(self):
        told = read_poly(3, "abc + a + 1")
        self.assertIs(type(told), tuple)
        self.assertTrue(all(type(term) is tuple for term in told))
        self.assertTrue(all(type(letter) is int for term in told for letter in term))

    def test_not_so_written(self):
        for many in ALL_MANY:
            for text in NO_POLYS:
                self.refuses(read_poly, many, text)

    def test_letters_beyond(self):
        for many in ALL_MANY:
            for letter in range(6):
                sign = "abcdef"[letter]
                if letter < many:
                    self.assertEqual(read_poly(many, sign), ((letter,),))
                else:
                    self.refuses(read_poly, many, sign)
                    self.refuses(read_poly, many, sign + " + a")
                    self.refuses(read_poly, many, "a" + sign)
                    self.refuses(read_poly, many, "a" + sign + " + 1")
            self.refuses(read_poly, many, "g")

    def test_one_sign_otherwise(self):
        for many in ALL_MANY:
            for poly in some_polys(many)[:8]:
                text = poly_text(poly)
                for at in range(len(text) + 1):
                    for sign in (" ", "\n", "+", "0", "A", "g", "?"):
                        self.refuses(read_poly, many, text[:at] + sign + text[at:])
                    if text[at:at + 1] in (" ", "+"):
                        self.refuses(read_poly, many, text[:at] + text[at + 1:])

    def test_terms_exchanged_and_twice(self):
        for many in ALL_MANY:
            for poly in some_polys(many):
                parts = poly_text(poly).split(" + ")
                for at in range(len(parts) - 1):
                    self.refuses(read_poly, many, " + ".join(parts[:at] + [parts[at + 1], parts[at]] + parts[at + 2:]))
                for at in range(len(parts)):
                    self.refuses(read_poly, many, " + ".join(parts[:at + 1] + parts[at:]))

    def test_anything(self):
        for many in ALL_MANY:
            for at, thing in enumerate(strange_things() + [((),), (), ((0,),), [], ["a"], b"a", b"0", ("a",), 0, 1]):
                if type(thing) is not str:
                    self.refuses(read_poly, many, thing)


class WordText(unittest.TestCase):
    def test_place_by_place(self):
        for many in ALL_MANY:
            for word in some_words(many):
                told = word_text(many, word)
                self.assertIs(type(told), str)
                self.assertEqual(told, "".join("1" if word >> place & 1 else "0" for place in range(2 ** many)))

    def test_by_hand(self):
        self.assertEqual(word_text(1, 0b01), "10")
        self.assertEqual(word_text(2, 0b0011), "1100")
        self.assertEqual(word_text(3, 0), "00000000")


class ReadWord(Refused):
    def test_back(self):
        for many in ALL_MANY:
            for word in some_words(many):
                told = read_word(many, word_text(many, word))
                self.assertIs(type(told), int)
                self.assertEqual(told, word)

    def test_all_of_few_letters(self):
        for many in (1, 2, 3):
            texts = [word_text(many, word) for word in range(2 ** 2 ** many)]
            self.assertEqual(len(set(texts)), 2 ** 2 ** many)
            self.assertEqual([read_word(many, text) for text in texts], list(range(2 ** 2 ** many)))

    def test_of_another_length(self):
        for many in ALL_MANY:
            for size in (0, 1, 2 ** many - 1, 2 ** many + 1, 2 ** (many - 1), 2 ** (many + 1)):
                if size != 2 ** many:
                    self.refuses(read_word, many, "0" * size)
                    self.refuses(read_word, many, "1" * size)
                    self.refuses(read_word, many, "01" * (size // 2) + "1" * (size % 2))

    def test_other_signs(self):
        for many in ALL_MANY:
            for word in some_words(many, 2):
                text = word_text(many, word)
                for at in (0, 1, 2 ** many - 1):
                    for code in [10] + list(range(32, 127)):
                        if chr(code) not in "01":
                            self.refuses(read_word, many, text[:at] + chr(code) + text[at + 1:])
                self.refuses(read_word, many, text + "\n")
                self.refuses(read_word, many, " " + text)
                self.refuses(read_word, many, text[:1] + " " + text[1:])

    def test_lost_places(self):
        for many in ALL_MANY:
            for lost in some_lost(many)[1:]:
                if lost:
                    self.refuses(read_word, many, heard_text(many, 0, lost))

    def test_anything(self):
        for many in ALL_MANY:
            things = strange_things() + ["0b" + "0" * (2 ** many - 2), b"0" * 2 ** many, ["0"] * 2 ** many]
            things += [("0",) * 2 ** many, tuple("01" * 2 ** (many - 1)), 0, 1, (0,) * 2 ** many, (LikesAll(),) * 2 ** many]
            for at, thing in enumerate(things):
                if many > 1 or type(thing) is not str:
                    self.refuses(read_word, many, thing)


class Heard(Refused):
    def test_written(self):
        for many in ALL_MANY:
            for word in some_words(many, 4):
                for lost in some_lost(many):
                    told = heard_text(many, word, lost)
                    by_hand = "".join("?" if k in lost else str(word >> k & 1) for k in range(2 ** many))
                    self.assertIs(type(told), str)
                    self.assertEqual(told, by_hand)
                    if lost == ():
                        self.assertEqual(told, word_text(many, word))

    def test_by_hand(self):
        self.assertEqual(heard_text(2, 0b0101, (1,)), "1?10")
        self.assertEqual(heard_text(2, 0b1111, (0, 3)), "?11?")
        self.assertEqual(read_heard(2, "1?10"), (0b0101, (1,)))
        self.assertEqual(read_heard(2, "????"), (0, (0, 1, 2, 3)))
        self.assertEqual(read_heard(1, "01"), (0b10, ()))

    def test_back_with_no_at_lost_places(self):
        for many in ALL_MANY:
            for word in some_words(many, 4):
                for lost in some_lost(many):
                    told = read_heard(many, heard_text(many, word, lost))
                    kept = sum(2 ** place for place in range(2 ** many) if word >> place & 1 and place not in lost)
                    self.assertEqual(told, (kept, lost))
                    self.assertEqual((type(told), type(told[0]), type(told[1])), (tuple, int, tuple))
                    self.assertEqual(heard_text(many, *told), heard_text(many, word, lost))

    def test_every_text_of_one_letter(self):
        from itertools import product
        for signs in product("01?a ", repeat=2):
            text = "".join(signs)
            if set(text) <= set("01?"):
                self.assertEqual(heard_text(1, *read_heard(1, text)), text)
            else:
                self.refuses(read_heard, 1, text)

    def test_not_so_written(self):
        for many in ALL_MANY:
            for lost in some_lost(many):
                text = heard_text(many, 1, lost)
                for at in (0, 1, 2 ** many - 1):
                    for code in [10] + list(range(32, 127)):
                        if chr(code) not in "01?":
                            self.refuses(read_heard, many, text[:at] + chr(code) + text[at + 1:])
                for sign in "01? \n":
                    self.refuses(read_heard, many, text + sign)
                    self.refuses(read_heard, many, sign + text)
                self.refuses(read_heard, many, text[1:])
                self.refuses(read_heard, many, text[:-1])
                self.refuses(read_heard, many, text + text)
            self.refuses(read_heard, many, "")

    def test_anything(self):
        for many in ALL_MANY:
            for at, thing in enumerate(strange_things() + [b"?" * 2 ** many, ["?"] * 2 ** many, (0, ()), ("?",) * 2 ** many]):
                self.refuses(read_heard, many, thing)


if __name__ == "__main__":
    unittest.main()
