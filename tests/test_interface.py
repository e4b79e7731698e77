"""Looks whether all names of the interface are there, with their arguments, and tell things of the kinds they may."""

import importlib
import inspect
import unittest

from tests.samples import some_turnings
from yesnowords.desk import Desk

INTERFACE = {
    "words": """is_word(many, thing) says(word, place) weight(word) where(word) word_at(some) plus(one, other)
        times(one, other) unlike(one, other) against(many, word) is_even(one, other) halves(many, word)
        joined(many, low, high)""",
    "bases": "base_of(some) made_of(base, word) even_with(many, some)",
    "polys": """is_term(many, thing) is_poly(many, thing) degree(poly) value(poly, place) poly_sum(one, other)
        poly_product(one, other) word_of(many, poly) poly_of(many, word)""",
    "steplooks": "steps(many, word) shows_steps(many, word, thing)",
    "kinds": """is_kind(thing) terms(kind) how_many(kind) is_in(kind, word) word_with(kind, digits)
        digits_of(kind, word) is_within(one, other)""",
    "lights": "least(kind) near(kind, word) light_paper(kind, word)",
    "lightlooks": "shows_light(kind, word, thing)",
    "spreads": "spread(kind) turned_spread(many, told)",
    "besides": "beside(kind) checks(kind) told_by(kind, word) odd_check(kind, word)",
    "flats": """is_flat(many, thing) flat_places(flat) flat_word(flat) flat_of(many, word)
        flats_along(many, directions) how_many_flats(many, d)""",
    "outs": "odd_flat(kind, word) lightest(kind)",
    "outlooks": "shows_out(kind, word, thing)",
    "turnings": """is_turning(many, thing) sent(turning, place) turned(many, turning, word) one_by_one(one, other)
        back(turning) how_many_turnings(many)""",
    "turnpolys": "turned_poly(many, turning, poly) leading(many, flat, other)",
    "mending": "votes(many, heard, term) mend(kind, heard)",
    "mendlooks": "shows_mended(kind, heard, thing)",
    "halving": "mend_by_halves(kind, heard)",
    "losing": "fill(kind, heard, lost) mend_lost(kind, heard, lost)",
    "inners": "parts(many, word, inner) put_in(many, inner, some) part_kinds(kind, inner)",
    "firsts": """near_steps(many, word) agreements(many, word) nearest(many, word) within(many, word, far)
        is_bent(many, word)""",
    "nearlooks": "shows_near(many, word, thing)",
    "showing": "poly_text(poly) word_text(many, word) heard_text(many, word, lost)",
    "reading": "read_poly(many, text) read_word(many, text) read_heard(many, text)",
    "forms": "is_form(many, thing) form_poly(form) form_of(many, word) form_weight(many, form) how_many_have(many, form)",
    "formlooks": "shows_form(many, word, thing)",
    "formkin": "turning_to(many, one, other)",
    "states": "states(kind) states_at(kind, t)",
    "prices": "least_price(kind, prices) nearest_in(kind, heard)",
    "pricelooks": "shows_price(kind, prices, thing)",
}
# Of 3 letters and most 1: what is handed in, by each argument's name.
GIVEN = {
    "many": 3, "word": 0b11001100, "heard": 0b11001100, "one": 0b11001100, "other": 0b10101010, "place": 5, "base": (0b11001100,),
    "some": (3, 5, 0), "low": 3, "high": 5, "poly": ((0,), (1, 2)), "thing": 0, "kind": (3, 1), "digits": (0, 1, 1, 0),
    "told": ((0, 1), (8, 1)), "flat": (0, (3,)), "directions": (3,), "d": 2, "turning": some_turnings(3)[-1], "term": (0, 2),
    "lost": (1, 4), "inner": 2, "far": 2, "text": "01100110", "form": (1, 2), "t": 3, "prices": (1, 2, -3, 4, 0, -1, 7, -9),
}
OTHERWISE = {
    "poly_sum": {"one": ((0,),), "other": ((), (0,))}, "poly_product": {"one": ((0,),), "other": ((), (0,))},
    "is_within": {"one": (3, 1), "other": (3, 2)}, "one_by_one": {"one": GIVEN["turning"], "other": GIVEN["turning"]},
    "leading": {"other": (1, (4,))}, "read_poly": {"text": "ab + c + 1"}, "read_heard": {"text": "01?001?0"},
    "put_in": {"some": (5, 9)}, "word_at": {"some": (3, 5, 0)},
}


def each_function():
    for stem, row in INTERFACE.items():
        module = importlib.import_module("yesnowords." + stem)
        for call in row.replace("\n", " ").split(")"):
            if call.strip():
                name, _, names = call.strip().partition("(")
                yield module, name, names.split(", ")


def is_told_kind(thing):
    """Whether a thing is a whole number, a text, None, or a tuple of such."""
    if type(thing) is tuple:
        return all(is_told_kind(part) for part in thing)
    return thing is None or type(thing) in (int, str)


class Interface(unittest.TestCase):
    def test_names_and_arguments(self):
        count = 0
        for module, name, names in each_function():
            deed = getattr(module, name)
            self.assertEqual(deed.__module__, module.__name__)
            self.assertEqual(list(inspect.signature(deed).parameters), names, name)
            count += 1
        self.assertEqual(count, 92)
        self.assertEqual(list(inspect.signature(Desk).parameters), ["many", "most"])
        self.assertEqual(list(inspect.signature(Desk(1, 1).say).parameters), ["line"])

    def test_kinds_told_and_the_same_again(self):
        for module, name, names in each_function():
            given = dict(GIVEN, **OTHERWISE.get(name, {}))
            handed = [given[one] for one in names]
            before = repr(handed)
            told = getattr(module, name)(*handed)
            if name.startswith("is_") or name.startswith("shows_"):
                self.assertIs(type(told), bool, name)
            else:
                self.assertTrue(is_told_kind(told), name)
            self.assertEqual(repr(handed), before)
            self.assertEqual(repr(getattr(module, name)(*handed)), repr(told), name)
            self.assertEqual(repr(getattr(module, name)(**dict(zip(names, handed)))), repr(told), name)


if __name__ == "__main__":
    unittest.main()
