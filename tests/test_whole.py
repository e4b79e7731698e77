"""The whole promise, (a) to (l), through the interface alone."""

import unittest

from itertools import combinations

from tests.samples import (
    ALL_KINDS, SMALL_KINDS, faults, mixed, some_heard, some_turnings, some_words, told_or_none, words_of_kind,
)
from yesnowords.bases import base_of, even_with, made_of
from yesnowords.besides import beside, checks, odd_check, told_by
from yesnowords.desk import Desk
from yesnowords.errors import NoFit, NoLine, NoMost, NotIn, NoText, TooFar, TooMany
from yesnowords.firsts import agreements, is_bent, near_steps, nearest, within
from yesnowords.flats import flat_of, flat_word, how_many_flats, is_flat
from yesnowords.formkin import turning_to
from yesnowords.formlooks import shows_form
from yesnowords.forms import form_of, form_poly, form_weight, how_many_have, is_form
from yesnowords.halving import mend_by_halves
from yesnowords.inners import part_kinds, parts, put_in
from yesnowords.kinds import digits_of, how_many, is_in, is_kind, is_within, terms, word_with
from yesnowords.lightlooks import shows_light
from yesnowords.lights import least, light_paper, near
from yesnowords.losing import fill, mend_lost
from yesnowords.mending import mend
from yesnowords.mendlooks import shows_mended
from yesnowords.nearlooks import shows_near
from yesnowords.outlooks import shows_out
from yesnowords.outs import lightest, odd_flat
from yesnowords.polys import degree, is_poly, poly_of, poly_product, poly_sum, value, word_of
from yesnowords.pricelooks import shows_price
from yesnowords.prices import least_price, nearest_in
from yesnowords.reading import read_heard, read_poly, read_word
from yesnowords.showing import heard_text, poly_text, word_text
from yesnowords.spreads import spread, turned_spread
from yesnowords.states import states, states_at
from yesnowords.steplooks import shows_steps, steps
from yesnowords.turnings import back, is_turning, one_by_one, turned
from yesnowords.turnpolys import leading, turned_poly
from yesnowords.words import against, is_even, is_word, plus, says, times, unlike, weight, where, word_at

ALL_MANY = range(1, 7)


def all_digits(size):
    """All tuples of so many 0s and 1s."""
    return [tuple(pick >> at & 1 for at in range(size)) for pick in range(2 ** size)]


def words_of(kind):
    """All words of a small kind, by their digits."""
    return [word_with(kind, digits) for digits in all_digits(len(terms(kind)))]


def all_forms(many):
    return [(pairs, rest) for pairs in range(4) for rest in range(3) if is_form(many, (pairs, rest))]


class WordsAndPolynomials(unittest.TestCase):
    """(a)"""

    def test_each_word_of_just_one_polynomial(self):
        for many in (1, 2, 3):
            polys = [poly_of(many, word) for word in range(2 ** 2 ** many)]
            self.assertEqual(len(set(polys)), 2 ** 2 ** many)
            self.assertTrue(all(is_poly(many, poly) for poly in polys))
            self.assertEqual([word_of(many, poly) for poly in polys], list(range(2 ** 2 ** many)))

    def test_values_and_steps(self):
        for many in ALL_MANY:
            for word in some_words(many):
                poly = poly_of(many, word)
                self.assertEqual(word_at([p for p in range(2 ** many) if value(poly, p) == 1]), word)
                self.assertTrue(shows_steps(many, word, steps(many, word)))
                self.assertEqual({where(place) for place in where(steps(many, word)[many])}, set(poly))

    def test_sums_and_products(self):
        for many in ALL_MANY:
            words = some_words(many, 5)
            for one, other in combinations(words, 2):
                left, right = poly_of(many, one), poly_of(many, other)
                self.assertEqual(word_of(many, poly_sum(left, right)), plus(one, other))
                self.assertEqual(word_of(many, poly_product(left, right)), times(one, other))


class Kinds(unittest.TestCase):
    """(b)"""

    def test_as_many_as_told(self):
        for kind in SMALL_KINDS:
            words = words_of(kind)
            self.assertEqual(len(set(words)), how_many(kind))
            self.assertTrue(all(is_word(kind[0], word) and is_in(kind, word) for word in words))
            self.assertEqual([digits_of(kind, word) for word in words], all_digits(len(terms(kind))))
        for many in (1, 2, 3):
            for most in range(many + 1):
                told = [word for word in range(2 ** 2 ** many) if is_in((many, most), word)]
                self.assertEqual(len(told), how_many((many, most)))

    def test_sums_and_turned_words(self):
        for kind in ALL_KINDS:
            words = words_of_kind(kind, 4)[-6:]
            for one, other in combinations(words, 2):
                self.assertTrue(is_in(kind, plus(one, other)))
            for turning in some_turnings(kind[0], 3):
                for word in words:
                    self.assertTrue(is_in(kind, turned(kind[0], turning, word)))
                    self.assertEqual(word_of(kind[0], turned_poly(kind[0], turning, poly_of(kind[0], word))),
                                     turned(kind[0], turning, word))

    def test_one_lies_in_the_next(self):
        for many, most in ALL_KINDS:
            if most < many:
                self.assertTrue(is_within((many, most), (many, most + 1)))
                self.assertFalse(is_within((many, most + 1), (many, most)))
                for word in words_of_kind((many, most), 3):
                    self.assertTrue(is_in((many, most + 1), word))

    def test_products(self):
        for many, most in ALL_KINDS:
            for other in range(many + 1):
                both = (many, min(many, most + other))
                for one in words_of_kind((many, most), 2)[-3:]:
                    for two in words_of_kind((many, other), 2)[-3:]:
                        self.assertTrue(is_in(both, times(one, two)))


class Lights(unittest.TestCase):
    """(c)"""

    def test_unlike_words(self):
        for kind in SMALL_KINDS:
            words = words_of(kind)[:64]
            for one, other in combinations(words, 2):
                self.assertGreaterEqual(unlike(one, other), least(kind))
            for word in words:
                other = near(kind, word)
                self.assertTrue(is_in(kind, other))
                self.assertEqual(unlike(word, other), least(kind))

    def test_papers(self):
        for kind in ALL_KINDS:
            for word in words_of_kind(kind, 4):
                if word != 0:
                    self.assertTrue(shows_light(kind, word, light_paper(kind, word)))
                    self.assertGreaterEqual(weight(word), least(kind))

    def test_the_lightest_are_flats(self):
        for kind in SMALL_KINDS:
            many, most = kind
            light = [word for word in words_of(kind) if weight(word) == least(kind)]
            self.assertEqual(len(light), lightest(kind))
            self.assertEqual(len(light), how_many_flats(many, many - most))
            for word in light:
                place, directions = flat_of(many, word)
                self.assertEqual(len(directions), many - most)
                self.assertEqual(flat_word((place, directions)), word)
        for kind in ALL_KINDS:
            self.assertEqual(dict(spread(kind))[least(kind)], lightest(kind))


class Besides(unittest.TestCase):
    """(d)"""

    def test_just_the_kind_beside(self):
        for kind in ALL_KINDS:
            many = kind[0]
            singles = tuple(word_of(many, (term,)) for term in terms(kind))
            told = even_with(many, singles)
            self.assertEqual(told, base_of(checks(kind)))
            other = beside(kind)
            if other is None:
                self.assertEqual(told, ())
            else:
                self.assertTrue(is_kind(other))
                self.assertEqual(2 ** len(told), how_many(other))
                self.assertTrue(all(is_in(other, word) for word in told))
            for word in some_words(many, 3):
                self.assertEqual(made_of(told, word) is not None, all(is_even(word, single) for single in singles))

    def test_spreads(self):
        for kind in ALL_KINDS:
            told = spread(kind)
            self.assertEqual(sum(number for _, number in told), how_many(kind))
            other = beside(kind)
            self.assertEqual(turned_spread(kind[0], told), ((0, 1),) if other is None else spread(other))


class Outs(unittest.TestCase):
    """(e)"""

    def test_in_or_shown_out(self):
        for kind in ALL_KINDS:
            for word in some_words(kind[0], 3) + words_of_kind(kind, 2):
                flat, check = odd_flat(kind, word), odd_check(kind, word)
                if is_in(kind, word):
                    self.assertEqual((flat, check), (None, None))
                    self.assertEqual(set(told_by(kind, word)) - {0}, set())
                    self.assertFalse(shows_out(kind, word, flat))
                    if kind[1] < kind[0]:
                        self.assertFalse(shows_out(kind, word, odd_flat(kind, plus(word, 1))))
                else:
                    self.assertTrue(is_flat(kind[0], flat))
                    self.assertTrue(shows_out(kind, word, flat))
                    self.assertIn(check, checks(kind))
                    self.assertFalse(is_even(word, check))
                    self.assertRaises(NotIn, digits_of, kind, word)


class Mending(unittest.TestCase):
    """(f)"""

    def test_votes_and_halves_alike(self):
        for kind in ALL_KINDS:
            for heard in some_heard(kind):
                by_halves = told_or_none(TooFar, mend_by_halves, kind, heard)
                try:
                    word, rows = mend(kind, heard)
                except (NoMost, TooFar):
                    self.assertIsNone(by_halves)
                    self.assertRaises(TooFar, mend_lost, kind, heard, ())
                else:
                    self.assertEqual(word, by_halves)
                    self.assertEqual(word, mend_lost(kind, heard, ()))
                    self.assertTrue(shows_mended(kind, heard, (word, rows)))
                    self.assertTrue(is_in(kind, word) and 2 * unlike(word, heard) < least(kind))

    def test_few_faults_from_text_to_text(self):
        for kind in ALL_KINDS:
            many = kind[0]
            desk = Desk(*kind)
            for at, word in enumerate(words_of_kind(kind, 3)[-4:]):
                for count in range((least(kind) + 1) // 2):
                    heard = plus(word, faults(many, count, seed=at + 1))
                    self.assertEqual(mend(kind, heard)[0], word)
                    line = "mend " + word_text(many, read_word(many, word_text(many, heard)))
                    text = poly_text(poly_of(many, word))
                    self.assertEqual(desk.say(line), f"{desk.say('word ' + text)} {count}")


class Losing(unittest.TestCase):
    """(g)"""

    def test_lost_and_false(self):
        for kind in ALL_KINDS:
            many = kind[0]
            for at, word in enumerate(words_of_kind(kind, 2)[-3:]):
                for count in range(least(kind)):
                    lost = where(faults(many, count, seed=at + 5))
                    false = (least(kind) - 1 - count) // 2
                    free = [place for place in range(2 ** many) if place not in lost]
                    heard = plus(word, word_at(free[at::3][:false]))
                    for lie in (0, word_at(lost)):
                        self.assertEqual(mend_lost(kind, plus(heard, lie), lost), word)

    def test_all_that_fit(self):
        for kind in SMALL_KINDS:
            many = kind[0]
            words = words_of(kind)
            for count in sorted({0, 1, least(kind), 2 ** many // 2, 2 ** many}):
                lost = where(faults(many, count, seed=count + 1))
                known = against(many, word_at(lost))
                for heard in (words[-1], plus(words[-1], 1), words[len(words) // 2]):
                    fits = sorted(word for word in words if times(plus(word, heard), known) == 0)
                    told = told_or_none(NoFit, fill, kind, heard, lost)
                    if told is None:
                        self.assertEqual(fits, [])
                    else:
                        word, base = told
                        sums = [0]
                        for one in base:
                            sums += [plus(one, other) for other in sums]
                        self.assertEqual(sorted(plus(word, one) for one in sums), fits)
                        self.assertEqual(word, fits[0])


class Inners(unittest.TestCase):
    """(h)"""

    def test_in_just_where_its_parts_are(self):
        for kind in ALL_KINDS:
            many = kind[0]
            for inner in range(1, many + 1):
                for word in some_words(many, 2) + words_of_kind(kind, 1)[-3:]:
                    some = parts(many, word, inner)
                    self.assertEqual(put_in(many, inner, some), word)
                    told = [part == 0 if one is None else is_in(one, part) for one, part in zip(part_kinds(kind, inner), some)]
                    self.assertEqual(is_in(kind, word), all(told))

    def test_put_in_told_back(self):
        for many in ALL_MANY:
            for inner in range(1, many + 1):
                some = tuple(mixed(inner, 2 ** (many - inner), seed=inner))
                self.assertEqual(parts(many, put_in(many, inner, some), inner), some)


class Firsts(unittest.TestCase):
    """(i)"""

    def test_all_nearest(self):
        for many in ALL_MANY:
            every = words_of((many, 1))
            for word in some_words(many, 3):
                far, words = nearest(many, word)
                self.assertEqual(words, tuple(sorted(one for one in every if unlike(one, word) == far)))
                self.assertEqual(far, min(unlike(one, word) for one in every))
                for more in (far - 1, far, far + 1, 2 ** many // 2):
                    self.assertEqual(within(many, word, more), tuple(sorted(o for o in every if unlike(o, word) <= more)))

    def test_steps_show_how_near_each_is(self):
        for many in ALL_MANY:
            for word in some_words(many, 3):
                rows = near_steps(many, word)
                self.assertTrue(shows_near(many, word, rows))
                self.assertEqual(rows[many], agreements(many, word))
                for place in range(2 ** many):
                    other = word_of(many, tuple((letter,) for letter in where(place)))
                    self.assertEqual(2 ** many - 2 * unlike(word, other), rows[many][place])

    def test_bent_words_are_as_far_as_can_be(self):
        for many in (2, 4, 6):
            word = word_of(many, form_poly((many // 2, 0)))
            self.assertTrue(is_bent(many, word))
            self.assertEqual(nearest(many, word)[0], 2 ** (many - 1) - 2 ** (many // 2 - 1))


class Texts(unittest.TestCase):
    """(j)"""

    def test_read_as_it_was(self):
        for many in ALL_MANY:
            for word in some_words(many):
                poly = poly_of(many, word)
                self.assertEqual(read_poly(many, poly_text(poly)), poly)
                self.assertEqual(read_word(many, word_text(many, word)), word)
                for lost in ((), (0,), where(faults(many, 2 ** many // 2))):
                    kept = times(word, against(many, word_at(lost)))
                    self.assertEqual(read_heard(many, heard_text(many, word, lost)), (kept, lost))
                self.assertRaises(NoText, read_poly, many, word_text(many, word) + "?")
                self.assertRaises(NoText, read_word, many, poly_text(poly) + " + 1")

    def test_desk_answers_as_all_these_do(self):
        desk = Desk(1, 0)
        for kind in ALL_KINDS:
            many, most = kind
            self.assertEqual(desk.say(f"kind {many} {most}"), "ok")
            other = beside(kind)
            tail = "-" if other is None else f"{other[0]} {other[1]}"
            self.assertEqual(desk.say("about"), f"{len(terms(kind))} {least(kind)} {tail}")
            self.assertEqual(desk.say("spread"), " ".join(f"{heavy}:{number}" for heavy, number in spread(kind)))
            for word in some_words(many, 1) + words_of_kind(kind, 1)[-2:]:
                self.look(desk, kind, word)
            self.assertRaises(NoLine, desk.say, "poly " + "0" * (2 ** many + 1))

    def look(self, desk, kind, word):
        many = kind[0]
        text = word_text(many, word)
        self.assertEqual(desk.say("poly " + text), poly_text(poly_of(many, word)))
        self.assertEqual(desk.say("word " + poly_text(poly_of(many, word))), text)
        self.assertEqual(desk.say("weight " + text), str(weight(word)))
        self.assertEqual(desk.say("is " + text), "yes" if is_in(kind, word) else "no")
        digits = told_or_none(NotIn, digits_of, kind, word)
        told = "not in" if digits is None else "".join(str(digit) for digit in digits)
        self.assertEqual(desk.say("digits " + text), told)
        if digits is not None:
            self.assertEqual(desk.say("put " + told), text)
        flat = flat_of(many, word)
        told = "none" if flat is None else " ".join(str(one) for one in (flat[0],) + flat[1])
        self.assertEqual(desk.say("flat " + text), told)
        images, shift = some_turnings(many, 1)[-1]
        line = " ".join(["turn", str(shift)] + [str(image) for image in images] + [text])
        self.assertEqual(desk.say(line), word_text(many, turned(many, (images, shift), word)))
        told = " ".join(word_text(1, part) for part in parts(many, word, 1))
        self.assertEqual(desk.say("parts 1 " + text), told)
        far, words = nearest(many, word)
        self.assertEqual(desk.say("nearest " + text), " ".join([str(far)] + [word_text(many, one) for one in words]))
        told = told_or_none(NotIn, form_of, many, word)
        self.assertEqual(desk.say("form " + text), "not in" if told is None else f"{told[1][0]} {told[1][1]}")


class Forms(unittest.TestCase):
    """(k)"""

    def test_turned_to_just_one(self):
        for many in ALL_MANY:
            for word in words_of_kind((many, min(2, many)), 6):
                turning, form = form_of(many, word)
                self.assertTrue(is_turning(many, turning) and is_form(many, form))
                self.assertEqual(poly_of(many, turned(many, turning, word)), form_poly(form))
                self.assertEqual(turned_poly(many, turning, poly_of(many, word)), form_poly(form))
                self.assertTrue(shows_form(many, word, (turning, form)))
                self.assertEqual(weight(word), form_weight(many, form))
                for other in all_forms(many):
                    self.assertEqual(shows_form(many, word, (turning, other)), other == form)

    def test_turned_to_one_another(self):
        for many in ALL_MANY:
            words = words_of_kind((many, min(2, many)), 4)[-8:]
            words += [turned(many, some_turnings(many, 1)[-1], word) for word in words[:3]]
            for one in words:
                for other in words:
                    told = turning_to(many, one, other)
                    self.assertEqual(told is not None, form_of(many, one)[1] == form_of(many, other)[1])
                    if told is not None:
                        self.assertEqual(turned(many, told, one), other)
                        self.assertEqual(turned(many, back(told), other), one)

    def test_two_turnings_to_one_form(self):
        for many in ALL_MANY:
            for form in all_forms(many):
                word = word_of(many, form_poly(form))
                for turning in some_turnings(many, 2):
                    self.assertTrue(shows_form(many, turned(many, turning, word), (back(turning), form)))
                    both = one_by_one(turning, back(turning))
                    self.assertTrue(shows_form(many, word, (both, form)))

    def test_how_many(self):
        for many in ALL_MANY:
            rows = {}
            for form in all_forms(many):
                heavy = form_weight(many, form)
                rows[heavy] = rows.get(heavy, 0) + how_many_have(many, form)
            self.assertEqual(tuple(sorted(rows.items())), spread((many, min(2, many))))
            self.assertEqual(sum(rows.values()), how_many((many, min(2, many))))

    def test_of_more_letters_at_once(self):
        for many in range(3, 7):
            for word in some_words(many, 4):
                if degree(poly_of(many, word)) > 2:
                    self.assertRaises(NotIn, form_of, many, word)
                    self.assertRaises(NotIn, turning_to, many, word, 0)

    def test_flats_are_turned_to_one_another(self):
        for many in ALL_MANY:
            for size in range(max(0, many - 2), many + 1):
                one = (0, tuple(2 ** letter for letter in range(size)))
                other = (0, tuple(2 ** letter for letter in range(many - size, many)))
                way = leading(many, one, other)
                self.assertEqual(turned(many, way, flat_word(other)), flat_word(one))
                self.assertIsNotNone(turning_to(many, flat_word(one), flat_word(other)))


class Prices(unittest.TestCase):
    """(l)"""

    def test_least_price(self):
        for kind in ALL_KINDS:
            many = kind[0]
            prices = tuple((pick >> 9 & 31) - 12 for pick in mixed(6, 2 ** many, seed=many))
            if max(states(kind)) > 7:
                self.assertRaises(TooMany, least_price, kind, prices)
                self.assertRaises(TooMany, states_at, kind, 0)
                self.assertRaises(TooMany, nearest_in, kind, 0)
                self.assertFalse(shows_price(kind, prices, (0, 0, ())))
                continue
            price, word, table = told = least_price(kind, prices)
            self.assertTrue(shows_price(kind, prices, told))
            self.assertTrue(is_in(kind, word))
            self.assertEqual(sum(prices[place] for place in where(word)), price)
            self.assertEqual([len(row) for row in table], [len(states_at(kind, t)) for t in range(2 ** many + 1)])
            for other in words_of_kind(kind, 6):
                self.assertGreaterEqual(sum(prices[place] for place in where(other)), price)

    def test_small_kinds_gone_through(self):
        for kind in SMALL_KINDS:
            prices = tuple((pick >> 9 & 31) - 15 for pick in mixed(6, 2 ** kind[0], seed=3))
            every = words_of(kind)
            told = [sum(prices[place] for place in range(2 ** kind[0]) if says(word, place)) for word in every]
            self.assertEqual(least_price(kind, prices)[0], min(told))
            for heard in some_words(kind[0], 3):
                far, word = nearest_in(kind, heard)
                self.assertEqual(far, min(unlike(one, heard) for one in every))
                self.assertEqual((is_in(kind, word), unlike(word, heard)), (True, far))

    def test_near_ones_as_nearest_and_as_mended(self):
        for kind in ALL_KINDS:
            if max(states(kind)) <= 7:
                for heard in some_heard(kind)[:: 3]:
                    far, word = nearest_in(kind, heard)
                    if kind[1] == 1:
                        self.assertEqual(far, nearest(kind[0], heard)[0])
                        self.assertIn(word, nearest(kind[0], heard)[1])
                    mended = told_or_none(TooFar, mend_by_halves, kind, heard)
                    self.assertEqual(mended is not None, 2 * far < least(kind))
                    if mended is not None:
                        self.assertEqual((far, word), (unlike(mended, heard), mended))


if __name__ == "__main__":
    unittest.main()
