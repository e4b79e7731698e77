import unittest

from functools import lru_cache

from tests.samples import (
    ALL_KINDS, SMALL_KINDS, LikesAll, all_of, all_sums, all_terms, all_words_by_kind, degree_by_hand, faults, mixed,
    nested, nested_dict, otherwise, some_words, strange_things, word_by_hand, words_of_kind,
)
from yesnowords.errors import TooMany
from yesnowords.pricelooks import shows_price
from yesnowords.prices import least_price, nearest_in
from yesnowords.states import states, states_at


def columns_by_hand(kind):
    """For each place the number whose digit i is what the i-th term of the kind beside says there."""
    many, most = kind
    terms = all_terms(many, many - most - 1)
    told = []
    for place in range(2 ** many):
        yes = {letter for letter in range(many) if place // 2 ** letter % 2}
        told.append(sum(2 ** at for at, term in enumerate(terms) if set(term) <= yes))
    return told


COLUMNS = {kind: columns_by_hand(kind) for kind in ALL_KINDS}


def state_by_hand(kind, word, t):
    told = 0
    for place in range(2 ** kind[0]):
        if place < t and word >> place & 1:
            told ^= COLUMNS[kind][place]
    return told


def rank(some):
    """How many of some words aren't sums of those ahead."""
    rows = []
    for word in some:
        for row in rows:
            word = min(word, word ^ row)
        if word:
            rows.append(word)
    return len(rows)


def singles(kind):
    return [word_by_hand(kind[0], [term]) for term in all_terms(*kind)]


def powers_by_hand(kind):
    """For each t: of all words less those that say yes below t alone, less those that say yes from t on alone."""
    words = singles(kind)
    told = []
    for t in range(2 ** kind[0] + 1):
        below = len(words) - rank([word >> t for word in words])
        above = len(words) - rank([word & 2 ** t - 1 for word in words])
        told.append(len(words) - below - above)
    return tuple(told)


POWERS = {kind: powers_by_hand(kind) for kind in ALL_KINDS}
FEW = [kind for kind in ALL_KINDS if max(POWERS[kind]) <= 7]
FULL = [kind for kind in ALL_KINDS if max(POWERS[kind]) > 7]
SMALL = {kind: list(all_words_by_kind(*kind)) for kind in SMALL_KINDS}


def price_by_hand(prices, word):
    return sum(price for place, price in enumerate(prices) if word >> place & 1)


def some_prices(many):
    """Small ones, of either sign, all alike, 0, very great ones."""
    size = 2 ** many
    picks = mixed(6, size, seed=many + 2)
    small = [pick >> 20 & 7 for pick in picks]
    signed = [(pick >> 30 & 15) - 8 for pick in picks]
    great = [(pick >> 5) * 10 ** 40 - 10 ** 58 for pick in picks]
    told = [small, signed, great, [0] * size, [1] * size, [-1] * size, [-3] * size, [10 ** 50] * size]
    told += [[0] * (size - 1) + [-1], [-1] + [0] * (size - 1), [1] * (size // 2) + [-2] * (size // 2)]
    return [tuple(prices) for prices in told]


def table_by_hand(kind, prices, words):
    """For each t and each state the least sum from t on, all words gone through."""
    told = []
    for t in range(2 ** kind[0] + 1):
        row = {}
        for word in words:
            state = state_by_hand(kind, word, t)
            total = price_by_hand(prices, word >> t << t)
            row[state] = min(total, row.get(state, total))
        told.append(tuple(row[state] for state in sorted(row)))
    return tuple(told)


@lru_cache(None)
def all_states_by_hand(kind):
    told = []
    for t in range(2 ** kind[0] + 1):
        told.append(sorted(all_sums({state_by_hand(kind, word, t) for word in singles(kind)})))
    return told


def table_by_steps(kind, prices):
    """The same, from the last place to the first."""
    rows = all_states_by_hand(kind)
    sums = {0: 0}
    told = [(0,)]
    for t in range(2 ** kind[0] - 1, -1, -1):
        new = {}
        for state in rows[t]:
            ways = []
            if state in sums:
                ways.append(sums[state])
            if state ^ COLUMNS[kind][t] in sums:
                ways.append(prices[t] + sums[state ^ COLUMNS[kind][t]])
            new[state] = min(ways)
        sums = new
        told.append(tuple(sums[state] for state in rows[t]))
    return tuple(reversed(told))


class States(unittest.TestCase):
    def test_all_kinds(self):
        for kind in ALL_KINDS:
            told = states(kind)
            self.assertIs(type(told), tuple)
            self.assertTrue(all(type(power) is int for power in told))
            self.assertEqual(len(told), 2 ** kind[0] + 1)
            self.assertEqual(told, POWERS[kind])
            self.assertEqual((told[0], told[-1]), (0, 0))

    def test_told(self):
        self.assertEqual(states((1, 0)), (0, 1, 0))
        self.assertEqual(states((1, 1)), (0, 0, 0))
        self.assertEqual(states((2, 0)), (0, 1, 1, 1, 0))
        self.assertEqual(states((3, 1)), (0, 1, 2, 3, 2, 3, 2, 1, 0))
        self.assertEqual([max(states(kind)) for kind in ALL_KINDS if kind[0] == 5], [1, 5, 9, 5, 1, 0])
        self.assertEqual([max(states(kind)) for kind in ALL_KINDS if kind[0] == 6], [1, 6, 14, 14, 6, 1, 0])

    def test_never_refused(self):
        self.assertEqual(FULL, [(5, 2), (6, 2), (6, 3)])
        for kind in FULL:
            self.assertGreater(max(states(kind)), 7)


class StatesAt(unittest.TestCase):
    def test_gone_through(self):
        for kind in SMALL_KINDS:
            for t in range(2 ** kind[0] + 1):
                told = states_at(kind, t)
                self.assertIs(type(told), tuple)
                self.assertEqual(told, tuple(sorted({state_by_hand(kind, word, t) for word in SMALL[kind]})))

    def test_all_kinds_of_few_states(self):
        for kind in FEW:
            rows = all_states_by_hand(kind)
            for t in range(0, 2 ** kind[0] + 1, 1 if kind[0] < 5 else 5):
                told = states_at(kind, t)
                self.assertEqual(list(told), rows[t])
                self.assertEqual(len(told), 2 ** states(kind)[t])

    def test_told(self):
        self.assertEqual([states_at((1, 0), t) for t in range(3)], [(0,), (0, 1), (0,)])
        self.assertEqual(states_at((2, 0), 1), (0, 1))
        self.assertEqual(states_at((2, 0), 2), (0, 2))
        self.assertEqual(states_at((3, 1), 4), (0, 2, 4, 6))
        for many in range(1, 7):
            for t in range(2 ** many + 1):
                self.assertEqual(states_at((many, many), t), (0,))

    def test_beyond_the_ends(self):
        for kind in FEW:
            self.assertEqual(states_at(kind, -1), (0,))
            self.assertEqual(states_at(kind, 2 ** kind[0]), (0,))
            self.assertEqual(states_at(kind, 2 ** kind[0] + 1), (0,))

    def test_too_many(self):
        for kind in FULL:
            for t in range(-1, 2 ** kind[0] + 2, 3):
                with self.assertRaises(TooMany) as caught:
                    states_at(kind, t)
                self.assertIs(type(caught.exception), TooMany)
            self.assertRaises(TooMany, states_at, kind, 0)
            self.assertRaises(TooMany, states_at, kind, 2 ** kind[0])


class LeastPrice(unittest.TestCase):
    def look(self, kind, prices):
        told = least_price(kind, prices)
        self.assertEqual((type(told), len(told)), (tuple, 3))
        price, word, table = told
        self.assertIs(type(price), int)
        self.assertIs(type(word), int)
        self.assertLessEqual(degree_by_hand(kind[0], word), kind[1])
        self.assertEqual(price_by_hand(prices, word), price)
        self.assertEqual({type(row) for row in table} | {type(table)}, {tuple})
        self.assertEqual({type(total) for row in table for total in row}, {int})
        return told

    def test_gone_through(self):
        for kind in SMALL_KINDS:
            for prices in some_prices(kind[0]):
                price, word, table = self.look(kind, prices)
                self.assertEqual(price, min(price_by_hand(prices, other) for other in SMALL[kind]))
                if kind[0] < 5:
                    self.assertEqual(table, table_by_hand(kind, prices, SMALL[kind]))

    def test_step_by_step(self):
        for kind in FEW:
            for prices in some_prices(kind[0])[:5]:
                price, word, table = self.look(kind, prices)
                self.assertEqual(table, table_by_steps(kind, prices))
                self.assertEqual(price, table[0][0])

    def test_all_words_of_four_letters_and_two_at_once(self):
        for prices in some_prices(4)[:3]:
            price, word, table = self.look((4, 2), prices)
            self.assertEqual(price, min(price_by_hand(prices, other) for other in all_words_by_kind(4, 2)))

    def test_table_has_a_number_for_each_state(self):
        for kind in FEW:
            table = least_price(kind, some_prices(kind[0])[1])[2]
            self.assertEqual(len(table), 2 ** kind[0] + 1)
            self.assertEqual([len(row) for row in table], [2 ** power for power in POWERS[kind]])
            self.assertEqual(table[-1], (0,))

    def test_most_none_and_all(self):
        for many in range(1, 7):
            for prices in some_prices(many):
                self.assertEqual(least_price((many, 0), prices)[0], min(0, sum(prices)))
                price, word, table = self.look((many, many), prices)
                self.assertEqual(price, sum(one for one in prices if one < 0))
                self.assertEqual(table, tuple((sum(one for one in prices[t:] if one < 0),) for t in range(2 ** many + 1)))

    def test_told(self):
        self.assertEqual(least_price((1, 0), (2, -3)), (-1, 3, ((-1,), (0, -3), (0,))))
        self.assertEqual(least_price((1, 1), (2, -3)), (-3, 2, ((-3,), (-3,), (0,))))
        self.assertEqual(least_price((1, 0), (3, -2)), (0, 0, ((0,), (0, -2), (0,))))

    def test_too_many(self):
        for kind in FULL:
            for prices in some_prices(kind[0])[:3] + [(0,) * 2 ** kind[0]]:
                with self.assertRaises(TooMany) as caught:
                    least_price(kind, prices)
                self.assertIs(type(caught.exception), TooMany)


class NearestIn(unittest.TestCase):
    def look(self, kind, heard):
        told = nearest_in(kind, heard)
        self.assertEqual((type(told), len(told)), (tuple, 2))
        far, word = told
        self.assertEqual((type(far), type(word)), (int, int))
        self.assertLessEqual(degree_by_hand(kind[0], word), kind[1])
        self.assertEqual(bin(word ^ heard).count("1"), far)
        return far

    def test_gone_through(self):
        for kind in SMALL_KINDS:
            for heard in some_words(kind[0], 6) + [faults(kind[0], 2 ** kind[0] // 3)]:
                self.assertEqual(self.look(kind, heard), min(bin(word ^ heard).count("1") for word in SMALL[kind]))

    def test_all_words_of_three_letters(self):
        for most in range(4):
            for heard in range(256):
                fars = [bin(word ^ heard).count("1") for word in all_words_by_kind(3, most)]
                self.assertEqual(self.look((3, most), heard), min(fars))

    def test_few_faults(self):
        for kind in FEW:
            least = 2 ** (kind[0] - kind[1])
            for at, word in enumerate(words_of_kind(kind, 3)[-5:]):
                self.assertEqual(nearest_in(kind, word), (0, word))
                for count in range(1, least):
                    heard = word ^ faults(kind[0], count, seed=at + 1)
                    if 2 * count < least:
                        self.assertEqual(nearest_in(kind, heard), (count, word))
                    elif count in (least // 2, least - 1):
                        self.assertLessEqual(self.look(kind, heard), count)

    def test_all_but_few_letters_at_once(self):
        for many in range(2, 7):
            for heard in some_words(many, 4):
                odd = bin(heard).count("1") % 2
                self.assertEqual(self.look((many, many), heard), 0)
                self.assertEqual(self.look((many, many - 1), heard), odd)
                if degree_by_hand(many, heard) > many - 2:
                    # An odd word is one place off from just one of the kind; an even one that isn't in is two off.
                    self.assertEqual(self.look((many, many - 2), heard), 2 - odd)

    def test_too_many(self):
        for kind in FULL:
            for heard in (0, 1, all_of(kind[0])):
                with self.assertRaises(TooMany) as caught:
                    nearest_in(kind, heard)
                self.assertIs(type(caught.exception), TooMany)


class ShowsPrice(unittest.TestCase):
    def test_what_least_price_tells(self):
        for kind in FEW:
            for prices in some_prices(kind[0])[:4]:
                self.assertIs(shows_price(kind, prices, least_price(kind, prices)), True)

    def test_with_every_word(self):
        for kind in SMALL_KINDS:
            if kind[0] < 5:
                for prices in some_prices(kind[0]):
                    price, _, table = least_price(kind, prices)
                    words = SMALL[kind] if kind[0] > 3 else range(2 ** 2 ** kind[0])
                    for word in words:
                        told = word in SMALL[kind] and price_by_hand(prices, word) == price
                        self.assertIs(shows_price(kind, prices, (price, word, table)), told)

    def test_a_dearer_word_with_its_own_price(self):
        for kind in FEW:
            for prices in some_prices(kind[0])[:2]:
                price, _, table = least_price(kind, prices)
                for word in words_of_kind(kind, 2)[-6:]:
                    own = price_by_hand(prices, word)
                    self.assertIs(shows_price(kind, prices, (own, word, table)), own == price)

    def test_words_out_of_the_kind(self):
        for kind in FEW:
            if kind[1] < kind[0]:
                prices = (0,) * 2 ** kind[0]
                price, word, table = least_price(kind, prices)
                for other in words_of_kind(kind, 2):
                    self.assertIs(shows_price(kind, prices, (0, other, table)), True)
                    self.assertIs(shows_price(kind, prices, (0, other ^ 1, table)), False)
                    self.assertIs(shows_price(kind, prices, (0, other + 2 ** 2 ** kind[0], table)), False)
                    self.assertIs(shows_price(kind, prices, (0, -1 - other, table)), False)

    def test_one_thing_otherwise(self):
        for kind in ALL_KINDS:
            if kind[0] <= 3:
                for prices in some_prices(kind[0])[:4]:
                    told = least_price(kind, prices)
                    for thing in otherwise(told):
                        shown = False
                        if type(thing) is tuple and len(thing) == 3 and repr(thing[::2]) == repr(told[::2]):
                            if type(thing[1]) is int and thing[1] in SMALL[kind]:
                                shown = price_by_hand(prices, thing[1]) == told[0]
                        self.assertIs(shows_price(kind, prices, thing), shown)

    def test_one_number_of_a_great_table(self):
        for kind in ((5, 3), (6, 1), (6, 4), (6, 5)):
            prices = some_prices(kind[0])[1]
            price, word, table = least_price(kind, prices)
            for t in range(0, len(table), 7):
                row = table[t]
                for at in (0, len(row) - 1):
                    for other in (row[at] + 1, row[at] - 1, float(row[at]), None, str(row[at]), row[at] == 0):
                        spoilt = table[:t] + (row[:at] + (other,) + row[at + 1:],) + table[t + 1:]
                        self.assertIs(shows_price(kind, prices, (price, word, spoilt)), False)
                for other in (list(row), row + (0,), row[:-1], row + row[-1:], ()):
                    self.assertIs(shows_price(kind, prices, (price, word, table[:t] + (other,) + table[t + 1:])), False)
                self.assertIs(shows_price(kind, prices, (price, word, table[:t] + table[t + 1:])), False)
                self.assertIs(shows_price(kind, prices, (price, word, table[:t] + (row,) + table[t:])), False)
            self.assertIs(shows_price(kind, prices, (price, word, list(table))), False)
            self.assertIs(shows_price(kind, prices, (price + 1, word, table)), False)
            self.assertIs(shows_price(kind, prices, (price, word, table[::-1])), False)

    def test_truths_for_numbers(self):
        told = least_price((1, 1), (-1, 1))
        self.assertEqual(told, (-1, 1, ((-1,), (0,), (0,))))
        self.assertIs(shows_price((1, 1), (-1, 1), (-1, True, told[2])), False)
        self.assertIs(shows_price((1, 1), (-1, 1), (-1, 1, ((-1,), (False,), (0,)))), False)
        self.assertIs(shows_price((1, 0), (0, 0), (False, 0, ((0,), (0, 0), (0,)))), False)
        self.assertIs(shows_price((1, 0), (0, 0), (0, False, ((0,), (0, 0), (0,)))), False)
        self.assertIs(shows_price((1, 0), (0, 0), (0.0, 0, ((0,), (0, 0), (0,)))), False)
        self.assertIs(shows_price((1, 0), (0, 0), (0, 0, ((0,), (0, 0), (0,)))), True)

    def test_of_other_prices(self):
        for kind in FEW[:: 2]:
            some = some_prices(kind[0])[:5]
            for prices in some:
                for others in some:
                    told = least_price(kind, others)
                    shown = told[2] == least_price(kind, prices)[2] and price_by_hand(prices, told[1]) == told[0]
                    self.assertIs(shows_price(kind, prices, told), shown)
            self.assertIs(shows_price(kind, some[0], least_price(kind, some[1])), False)

    def test_of_other_kinds(self):
        for many in range(2, 5):
            prices = some_prices(many)[1]
            for one in range(many + 1):
                for other in range(many + 1):
                    told = least_price((many, other), prices)
                    self.assertIs(shows_price((many, one), prices, told), one == other)

    def test_refused(self):
        for kind in FULL:
            size = 2 ** kind[0]
            prices = (0,) * size
            table = tuple((0,) * 2 ** min(7, power) for power in POWERS[kind])
            self.assertIs(shows_price(kind, prices, (0, 0, table)), False)
            self.assertIs(shows_price(kind, prices, (0, 0, tuple((0,) * 2 ** power for power in POWERS[kind]))), False)
            self.assertIs(shows_price(kind, prices, (0, 0, ())), False)
            for thing in strange_things():
                self.assertIs(shows_price(kind, prices, thing), False)

    def test_anything(self):
        for kind in [(1, 0), (1, 1), (2, 1), (3, 1), (4, 2), (6, 1)]:
            prices = some_prices(kind[0])[1]
            price, word, table = least_price(kind, prices)
            more = [nested(tuple, 40), nested_dict(40), (LikesAll(),) * 3, (nested(tuple, 39),) * 3]
            for at, thing in enumerate(strange_things() + more):
                self.assertIs(shows_price(kind, prices, thing), False, at)
                self.assertIs(shows_price(kind, prices, (price, word, thing)), False, at)
                self.assertIs(shows_price(kind, prices, (price, thing, table)), False, at)
                self.assertIs(shows_price(kind, prices, (price, word, table, thing)), False, at)
                self.assertIs(shows_price(kind, prices, (price, word, table[:-1] + (thing,))), False, at)
                self.assertIs(shows_price(kind, prices, (price, word, table[:-1] + ((thing,),))), False, at)
                if type(thing) is not int:
                    self.assertIs(shows_price(kind, prices, (thing, word, table)), False, at)


if __name__ == "__main__":
    unittest.main()
