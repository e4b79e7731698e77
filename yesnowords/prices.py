"""Least prices: the cheapest word of a kind of few states, reckoned from the last place to the first."""

from yesnowords.states import all_states, columns
from yesnowords.words import plus, says, weight, word_at


def ways_on(state, column, price, behind):
    """(sum, digit) for each digit, 0 or 1, with which a word goes on from a state; behind has the least sums then."""
    both = ((0, state), (1, plus(state, column)))
    return [(digit * price + behind[after], digit) for digit, after in both if after in behind]


def least_sums(kind, prices):
    """For each t a dict: for each state the least sum of prices of yes places from t on."""
    rows = all_states(kind)
    lines = columns(kind)
    told = [{0: 0}]
    for t in reversed(range(len(lines))):
        behind = told[-1]
        told.append({state: min(ways_on(state, lines[t], prices[t], behind))[0] for state in rows[t]})
    return told[::-1]


def cheapest(kind, prices, sums):
    """A word of the kind whose price is the least, by the least sums of each state."""
    state = 0
    places = []
    for place, column in enumerate(columns(kind)):
        digit = min(ways_on(state, column, prices[place], sums[place + 1]))[1]
        if digit == 1:
            places.append(place)
            state = plus(state, column)
    return word_at(places)


def price_table(sums):
    """For each t the tuple of the least sums, by rising states."""
    return tuple([tuple([row[state] for state in sorted(row)]) for row in sums])


def least_price(kind, prices):
    """(price, word, table): the least price of a word of the kind, such a word, and all least sums; else TooMany."""
    sums = least_sums(kind, prices)
    return (sums[0][0], cheapest(kind, prices, sums), price_table(sums))


def nearest_in(kind, heard):
    """(far, word): the fewest places in which a word of the kind is unlike heard, and such a word; else TooMany."""
    # To say yes costs 1 where heard says no, and saves 1 where it says yes, of all its yes places.
    prices = [1 - 2 * says(heard, place) for place in range(1 << kind[0])]
    price, word, table = least_price(kind, prices)
    return (weight(heard) + price, word)
