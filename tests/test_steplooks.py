import unittest

from tests.samples import bits, number, some_words, strange_things
from yesnowords.polys import poly_of
from yesnowords.steplooks import shows_steps, steps

ALL_MANY = range(1, 7)


def step_by_hand(many, word, letter):
    ahead = bits(word, many)
    told = []
    for place in range(2 ** many):
        if place >> letter & 1:
            told.append((ahead[place] + ahead[place - 2 ** letter]) % 2)
        else:
            told.append(ahead[place])
    return number(told)


class Steps(unittest.TestCase):
    def test_letter_by_letter(self):
        for many in ALL_MANY:
            for word in some_words(many):
                told = steps(many, word)
                self.assertIs(type(told), tuple)
                self.assertEqual(len(told), many + 1)
                self.assertEqual(told[0], word)
                for letter in range(many):
                    self.assertEqual(told[letter + 1], step_by_hand(many, told[letter], letter))

    def test_last_one_tells_the_terms(self):
        for many in ALL_MANY:
            for word in some_words(many):
                last = bits(steps(many, word)[-1], many)
                terms = [tuple(letter for letter in range(many) if place >> letter & 1) for place in range(2 ** many)]
                standing = {term for place, term in enumerate(terms) if last[place]}
                self.assertEqual(standing, set(poly_of(many, word)))

    def test_by_hand(self):
        self.assertEqual(steps(1, 1), (1, 3))
        self.assertEqual(steps(2, 0b0111), (0b0111, 0b1101, 0b1001))
        self.assertEqual(steps(6, 0), (0,) * 7)


class ShowsSteps(unittest.TestCase):
    def test_the_steps(self):
        for many in ALL_MANY:
            for word in some_words(many):
                self.assertIs(shows_steps(many, word, steps(many, word)), True)
                self.assertIs(shows_steps(many, word, tuple(list(steps(many, word)))), True)

    def wrong_ones(self, many, told):
        for at in range(len(told)):
            for place in (0, 2 ** many - 1):
                yield told[:at] + (told[at] ^ 1 << place,) + told[at + 1:]
            yield told[:at] + told[at + 1:]
            yield told[:at] + (told[at],) + told[at:]
            for strange in (str(told[at]), float(told[at] + 2 ** 70), None, (told[at],), [told[at]], -told[at] - 1):
                yield told[:at] + (strange,) + told[at + 1:]
            for other in range(at):
                if told[other] != told[at]:
                    swapped = list(told)
                    swapped[at], swapped[other] = told[other], told[at]
                    yield tuple(swapped)
        yield list(told)
        yield (told,)
        yield [told]
        yield told + (0,)
        yield ()
        yield dict(enumerate(told))

    def test_one_thing_otherwise(self):
        for many in ALL_MANY:
            for word in some_words(many, 5):
                for thing in self.wrong_ones(many, steps(many, word)):
                    self.assertIs(shows_steps(many, word, thing), False)

    def test_truths_for_numbers(self):
        self.assertEqual((False, False), steps(1, 0))
        self.assertIs(shows_steps(1, 0, (False, False)), False)
        self.assertIs(shows_steps(1, 0, (0, False)), False)
        self.assertIs(shows_steps(1, 1, (True, 3)), False)
        self.assertIs(shows_steps(1, 1, (1, 3.0)), False)
        self.assertIs(shows_steps(2, 0, (0, 0, 0.0)), False)

    def test_steps_of_another_word(self):
        for many in ALL_MANY:
            words = sorted(set(some_words(many)))
            for word in words:
                for other in words:
                    self.assertIs(shows_steps(many, word, steps(many, other)), word == other)
        for many in range(1, 6):
            self.assertIs(shows_steps(many, 1, steps(many + 1, 1)), False)
            self.assertIs(shows_steps(many + 1, 0, steps(many, 0)), False)

    def test_anything(self):
        for many in ALL_MANY:
            for word in (0, 1, 3):
                for at, thing in enumerate(strange_things()):
                    self.assertIs(shows_steps(many, word, thing), False, at)


if __name__ == "__main__":
    unittest.main()
