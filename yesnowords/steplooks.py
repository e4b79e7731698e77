"""Steps from a word to its polynomial, letter by letter, and a look whether they are these."""

from yesnowords.words import all_yes, is_number_row, plus, times


def letter_no(many, letter):
    """The word of many letters that says yes just where this letter is no."""
    # This word and itself a block of 2 ** letter places later are all places, each once:
    # so the word of all yes is this one times the sum of 1 and that shift.
    return all_yes(many) // ((1 << (1 << letter)) + 1)


def stepped(many, word, letter):
    """The word behind this one, by the letter."""
    lower = times(word, letter_no(many, letter))
    return plus(word, lower << (1 << letter))


def steps(many, word):
    """The word itself and the many words behind it, each by one more letter."""
    rows = [word]
    for letter in range(many):
        rows.append(stepped(many, rows[letter], letter))
    return tuple(rows)


def shows_steps(many, word, thing):
    """Whether anything is the steps of the word."""
    # Kinds first: True would count as 1 beside a number.
    return is_number_row(thing) and thing == steps(many, word)
