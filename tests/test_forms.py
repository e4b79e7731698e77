import unittest

from collections import Counter

from tests.samples import (
    LikesAll, all_of, all_terms, all_words_by_kind, degree_by_hand, mixed, nested, nested_dict, number, otherwise,
    sent_by_hand, some_turnings, some_words, strange_things, word_by_hand, words_of_kind,
)
from yesnowords.errors import NotIn
from yesnowords.formkin import turning_to
from yesnowords.formlooks import shows_form
from yesnowords.forms import form_of, form_poly, form_weight, how_many_have, is_form
from yesnowords.turnings import is_turning

ALL_MANY = range(1, 7)


def is_form_by_hand(many, pairs, rest):
    last = 2 * pairs if rest == 2 else 2 * pairs - 1
    return pairs >= 0 and rest in (0, 1, 2) and last < many


FORMS = {
    many: [(pairs, rest) for pairs in range(9) for rest in range(3) if is_form_by_hand(many, pairs, rest)]
    for many in ALL_MANY
}


def form_word(many, form):
    """The word of a form, from what the document says of its terms."""
    pairs, rest = form
    poly = [(2 * at, 2 * at + 1) for at in range(pairs)]
    poly += {0: [], 1: [()], 2: [(2 * pairs,)]}[rest]
    return word_by_hand(many, poly)


def turned_by_hand(many, turning, word):
    return number([word >> sent_by_hand(turning, place) & 1 for place in range(2 ** many)])


def is_shown(many, word, turning, form):
    """Whether the word, turned place by place, is the form's."""
    return turned_by_hand(many, turning, word) == form_word(many, form)


def some_seconds(many):
    """0, all yes, words of single terms of two letters at most, and mixed ones of degree 2 at most."""
    return words_of_kind((many, min(2, many)), 12)


def some_thirds(many):
    """Words of a degree above 2."""
    some = words_of_kind((many, many), 6) + some_words(many, 6) + [1, 1 << 2 ** many - 1]
    return [word for word in some if degree_by_hand(many, word) > 2]


class IsForm(unittest.TestCase):
    def test_all_forms(self):
        for many in ALL_MANY:
            for pairs in range(-2, 9):
                for rest in range(-2, 5):
                    self.assertIs(is_form(many, (pairs, rest)), is_form_by_hand(many, pairs, rest))

    def test_how_many(self):
        self.assertEqual([len(FORMS[many]) for many in ALL_MANY], [3, 5, 6, 8, 9, 11])

    def test_edges(self):
        for many in (2, 4, 6):
            self.assertIs(is_form(many, (many // 2, 0)), True)
            self.assertIs(is_form(many, (many // 2, 1)), True)
            self.assertIs(is_form(many, (many // 2, 2)), False)
        for many in (1, 3, 5):
            self.assertIs(is_form(many, (many // 2, 2)), True)
            self.assertIs(is_form(many, (many // 2 + 1, 0)), False)
            self.assertIs(is_form(many, (many // 2 + 1, 1)), False)

    def test_one_thing_otherwise(self):
        for many in ALL_MANY:
            for form in FORMS[many]:
                for thing in otherwise(form):
                    if type(thing) is tuple and len(thing) == 2 and all(type(part) is int for part in thing):
                        self.assertIs(is_form(many, thing), is_form_by_hand(many, *thing))
                    else:
                        self.assertIs(is_form(many, thing), False)

    def test_truths_for_numbers(self):
        self.assertIs(is_form(6, (True, 0)), False)
        self.assertIs(is_form(6, (False, 0)), False)
        self.assertIs(is_form(6, (1, True)), False)
        self.assertIs(is_form(6, (1, False)), False)
        self.assertIs(is_form(6, (1.0, 0)), False)
        self.assertIs(is_form(6, (1, 2.0)), False)
        self.assertIs(is_form(6, [1, 2]), False)

    def test_anything(self):
        for many in ALL_MANY:
            for at, thing in enumerate(strange_things() + [nested(tuple, 40), nested_dict(40), 0, 1, (), ((), ())]):
                self.assertIs(is_form(many, thing), False, at)
                self.assertIs(is_form(many, (0, thing)), type(thing) is int and 0 <= thing <= 2, at)
                self.assertIs(is_form(many, (thing, 0)), type(thing) is int and 0 <= 2 * thing <= many, at)
                self.assertIs(is_form(many, (0, 0, thing)), False, at)


class FormPoly(unittest.TestCase):
    def test_told(self):
        self.assertEqual(form_poly((0, 0)), ())
        self.assertEqual(form_poly((0, 1)), ((),))
        self.assertEqual(form_poly((0, 2)), ((0,),))
        self.assertEqual(form_poly((1, 0)), ((0, 1),))
        self.assertEqual(form_poly((1, 1)), ((), (0, 1)))
        self.assertEqual(form_poly((1, 2)), ((2,), (0, 1)))
        self.assertEqual(form_poly((2, 0)), ((0, 1), (2, 3)))
        self.assertEqual(form_poly((2, 1)), ((), (0, 1), (2, 3)))
        self.assertEqual(form_poly((2, 2)), ((4,), (0, 1), (2, 3)))
        self.assertEqual(form_poly((3, 0)), ((0, 1), (2, 3), (4, 5)))
        self.assertEqual(form_poly((3, 1)), ((), (0, 1), (2, 3), (4, 5)))

    def test_in_order(self):
        for form in FORMS[6]:
            told = form_poly(form)
            self.assertIs(type(told), tuple)
            self.assertEqual(sorted(told, key=lambda term: (len(term), term)), list(told))
            self.assertEqual(word_by_hand(6, told), form_word(6, form))


class FormWeight(unittest.TestCase):
    def test_against_the_word(self):
        for many in ALL_MANY:
            for form in FORMS[many]:
                told = form_weight(many, form)
                self.assertIs(type(told), int)
                self.assertEqual(told, bin(form_word(many, form)).count("1"))

    def test_told(self):
        self.assertEqual([form_weight(6, form) for form in FORMS[6]], [0, 64, 32, 16, 48, 32, 24, 40, 32, 28, 36])
        self.assertEqual([form_weight(1, form) for form in FORMS[1]], [0, 2, 1])


class FormOf(unittest.TestCase):
    def look(self, many, word):
        told = form_of(many, word)
        self.assertIs(type(told), tuple)
        turning, form = told
        self.assertTrue(is_turning(many, turning))
        self.assertIn(form, FORMS[many])
        self.assertTrue(is_shown(many, word, turning, form))
        return form

    def test_some_words(self):
        for many in ALL_MANY:
            for word in some_seconds(many):
                self.look(many, word)

    def test_all_words_of_few_letters(self):
        for many in (1, 2, 3):
            for word in all_words_by_kind(many, min(2, many)):
                self.look(many, word)

    def test_of_lesser_degree(self):
        for many in ALL_MANY:
            self.assertEqual(self.look(many, 0), (0, 0))
            self.assertEqual(self.look(many, all_of(many)), (0, 1))
            for word in all_words_by_kind(many, 1):
                if word not in (0, all_of(many)):
                    self.assertEqual(self.look(many, word), (0, 2))

    def test_form_itself(self):
        for many in ALL_MANY:
            for form in FORMS[many]:
                self.assertEqual(self.look(many, form_word(many, form)), form)

    def test_the_same_form_of_all_turned_ones(self):
        for many in ALL_MANY:
            for form in FORMS[many]:
                for turning in some_turnings(many, 8):
                    self.assertEqual(self.look(many, turned_by_hand(many, turning, form_word(many, form))), form)

    def test_single_products(self):
        for many in range(2, 7):
            for term in all_terms(many, 2):
                if len(term) == 2:
                    self.assertEqual(self.look(many, word_by_hand(many, [term])), (1, 0))
                    self.assertEqual(self.look(many, word_by_hand(many, [(), term])), (1, 1))
                    self.assertEqual(self.look(many, word_by_hand(many, [term[:1], term])), (1, 0))

    def test_refused(self):
        for many in range(3, 7):
            words = some_thirds(many)
            self.assertGreater(len(words), 5)
            for word in words:
                with self.assertRaises(NotIn) as caught:
                    form_of(many, word)
                self.assertIs(type(caught.exception), NotIn)

    def test_refused_just_above_two(self):
        for word in range(256):
            if degree_by_hand(3, word) > 2:
                self.assertRaises(NotIn, form_of, 3, word)
            else:
                self.look(3, word)
        for many in range(3, 7):
            for term in all_terms(many, 3):
                if len(term) == 3:
                    self.assertRaises(NotIn, form_of, many, word_by_hand(many, [term]))


class ShowsForm(unittest.TestCase):
    def test_what_form_of_tells(self):
        for many in ALL_MANY:
            for word in some_seconds(many):
                self.assertIs(shows_form(many, word, form_of(many, word)), True)

    def test_every_turning(self):
        from itertools import product
        for many in (1, 2, 3):
            for form in FORMS[many]:
                word = turned_by_hand(many, some_turnings(many)[-1], form_word(many, form))
                shown = 0
                for images in product(range(2 ** many), repeat=many):
                    for shift in range(2 ** many):
                        turning = (images, shift)
                        told = len({sent_by_hand(turning, place) for place in range(2 ** many)}) == 2 ** many
                        told = told and is_shown(many, word, turning, form)
                        self.assertIs(shows_form(many, word, (turning, form)), told)
                        shown += told
                self.assertGreater(shown, 0)

    def test_other_turnings_that_lead_there(self):
        for many in ALL_MANY:
            for form in FORMS[many]:
                for turning in some_turnings(many):
                    sends = {sent_by_hand(turning, place): place for place in range(2 ** many)}
                    base = form_word(many, form)
                    word = number([base >> sends[place] & 1 for place in range(2 ** many)])
                    self.assertIs(shows_form(many, word, (turning, form)), True)

    def test_another_form(self):
        for many in ALL_MANY:
            for word in some_seconds(many):
                turning, form = form_of(many, word)
                for other in FORMS[many] + [(4, 0), (-1, 0), (0, 3), (0, -1)]:
                    self.assertIs(shows_form(many, word, (turning, other)), other == form)

    def test_one_thing_otherwise(self):
        for many in ALL_MANY:
            for word in some_seconds(many)[-3:] + [0]:
                for thing in otherwise(form_of(many, word)):
                    told = False
                    if type(thing) is tuple and len(thing) == 2 and type(thing[1]) is tuple and len(thing[1]) == 2:
                        # Another turning may lead there too; this is looked at place by place.
                        told = is_turning(many, thing[0]) and repr(thing[1]) in [repr(form) for form in FORMS[many]]
                        told = told and is_shown(many, word, *thing)
                    self.assertIs(shows_form(many, word, thing), told)

    def test_of_another_word(self):
        for many in ALL_MANY:
            words = some_seconds(many)
            for word in words[:6]:
                for other in words:
                    told = form_of(many, other)
                    self.assertIs(shows_form(many, word, told), is_shown(many, word, *told))
            for word in some_thirds(many):
                for form in FORMS[many]:
                    for turning in some_turnings(many, 2):
                        self.assertIs(shows_form(many, word, (turning, form)), False)

    def test_anything(self):
        for many in ALL_MANY:
            turning, form = form_of(many, 0)
            more = [nested(tuple, 40), nested_dict(40), (nested(tuple, 39), nested(tuple, 39)), (LikesAll(), LikesAll())]
            for at, thing in enumerate(strange_things() + more):
                self.assertIs(shows_form(many, 0, thing), False, at)
                self.assertIs(shows_form(many, 0, (thing, form)), False, at)
                self.assertIs(shows_form(many, 0, (turning, thing)), False, at)
                self.assertIs(shows_form(many, 0, (turning, form, thing)), False, at)
            self.assertIs(shows_form(many, 0, [turning, form]), False)
            self.assertIs(shows_form(many, 0, (form, turning)), False)


class HowManyHave(unittest.TestCase):
    def test_gone_through(self):
        for many in (1, 2, 3):
            numbers = Counter()
            turnings = some_turnings(many, 4)
            for word in all_words_by_kind(many, min(2, many)):
                numbers[form_of(many, word)[1]] += 1
                for turning in turnings:
                    self.assertEqual(form_of(many, turned_by_hand(many, turning, word))[1], form_of(many, word)[1])
            for form in FORMS[many]:
                self.assertEqual(how_many_have(many, form), numbers[form])

    def test_all_turned_ones_of_a_form(self):
        from itertools import product
        for many in (1, 2, 3):
            ways = []
            for images in product(range(2 ** many), repeat=many):
                for shift in range(2 ** many):
                    if is_turning(many, (images, shift)):
                        ways.append((images, shift))
            for form in FORMS[many]:
                words = {turned_by_hand(many, way, form_word(many, form)) for way in ways}
                self.assertEqual(how_many_have(many, form), len(words))

    def test_all_together(self):
        for many in ALL_MANY:
            told = [how_many_have(many, form) for form in FORMS[many]]
            self.assertTrue(all(type(one) is int and one > 0 for one in told))
            self.assertEqual(sum(told), 2 ** len(all_terms(many, min(2, many))))

    def test_all_words_of_four_letters(self):
        numbers = Counter(form_of(4, word)[1] for word in all_words_by_kind(4, 2))
        self.assertEqual(numbers, Counter({form: how_many_have(4, form) for form in FORMS[4]}))

    def test_told(self):
        told = {form: how_many_have(6, form) for form in FORMS[6]}
        self.assertEqual(told[(0, 0)], 1)
        self.assertEqual(told[(0, 1)], 1)
        self.assertEqual(told[(0, 2)], 126)
        self.assertEqual(told[(1, 0)], 651 * 4)
        self.assertEqual(told[(1, 2)], 651 * 120)
        self.assertEqual(told[(2, 1)], 18228 * 16)
        self.assertEqual(told[(2, 2)], 18228 * 96)
        self.assertEqual(told[(3, 0)], 13888 * 64)
        self.assertEqual(told[(3, 1)], 13888 * 64)

    def test_no_form_of_so_many_letters(self):
        for many in ALL_MANY:
            for pairs in range(9):
                for rest in range(3):
                    if (pairs, rest) not in FORMS[many]:
                        self.assertEqual(how_many_have(many, (pairs, rest)), 0)


class TurningTo(unittest.TestCase):
    def test_of_one_form_or_of_unlike_ones(self):
        for many in ALL_MANY:
            words = some_seconds(many)[-10:] + [form_word(many, form) for form in FORMS[many]]
            forms = {word: form_of(many, word)[1] for word in words}
            for one in words:
                for other in words:
                    told = turning_to(many, one, other)
                    if forms[one] == forms[other]:
                        self.assertTrue(is_turning(many, told))
                        self.assertEqual(turned_by_hand(many, told, one), other)
                    else:
                        self.assertIsNone(told)

    def test_turned_ones(self):
        for many in ALL_MANY:
            for form in FORMS[many]:
                one, *others = [turned_by_hand(many, way, form_word(many, form)) for way in some_turnings(many, 6)[5:]]
                for other in others:
                    told = turning_to(many, one, other)
                    self.assertTrue(is_turning(many, told))
                    self.assertEqual(turned_by_hand(many, told, one), other)

    def test_itself(self):
        for many in ALL_MANY:
            for word in some_seconds(many):
                told = turning_to(many, word, word)
                self.assertTrue(is_turning(many, told))
                self.assertEqual(turned_by_hand(many, told, word), word)

    def test_just_where_there_is_one(self):
        # Of two letters all turnings are gone through.
        from itertools import product
        ways = [(images, shift) for images in product(range(4), repeat=2) for shift in range(4)]
        ways = [way for way in ways if is_turning(2, way)]
        self.assertEqual(len(ways), 24)
        for one in range(16):
            reached = {turned_by_hand(2, way, one) for way in ways}
            for other in range(16):
                told = turning_to(2, one, other)
                self.assertEqual(told is not None, other in reached)
                if told is not None:
                    self.assertEqual(turned_by_hand(2, told, one), other)

    def test_refused(self):
        for many in range(3, 7):
            for word in some_thirds(many):
                for one, other in ((word, 0), (0, word), (word, word), (word, word ^ 1), (form_word(many, (1, 0)), word)):
                    with self.assertRaises(NotIn) as caught:
                        turning_to(many, one, other)
                    self.assertIs(type(caught.exception), NotIn)


class MixedWords(unittest.TestCase):
    def test_sums_with_terms_of_fewer_letters_keep_their_pairs(self):
        for many in (4, 5, 6):
            for pick in mixed(many, 6, seed=3):
                top = [term for at, term in enumerate(all_terms(many, 2)[many + 1:]) if pick >> at & 1]
                pairs = {form_of(many, word_by_hand(many, top + low))[1][0] for low in ([], [()], [(0,)], [(), (many - 1,)])}
                self.assertEqual(len(pairs), 1)


if __name__ == "__main__":
    unittest.main()
