"""Words: each is one whole number, whose digit k is what the word says at place k."""


def is_whole(thing):
    """Whether anything is a whole number."""
    # Python counts True and False among the ints; here they are no numbers.
    return isinstance(thing, int) and not isinstance(thing, bool)


def is_row(thing, size):
    """Whether anything is a tuple of so many things."""
    return isinstance(thing, tuple) and len(thing) == size


def is_number_row(thing):
    """Whether anything is a tuple of whole numbers."""
    return isinstance(thing, tuple) and all([is_whole(number) for number in thing])


def are_number_rows(thing):
    """Whether anything is a tuple of tuples of whole numbers."""
    return isinstance(thing, tuple) and all([is_number_row(row) for row in thing])


def is_place(many, thing):
    """Whether anything is a place of many letters."""
    # The kind first: what isn't a number may not be compared.
    return is_whole(thing) and 0 <= thing < (1 << many)


def all_yes(many):
    """The word of many letters that says yes at each place."""
    return (1 << (1 << many)) - 1


def is_word(many, thing):
    """Whether anything is a word of many letters."""
    return is_whole(thing) and 0 <= thing <= all_yes(many)


def says(word, place):
    """1 where the word says yes at the place, else 0."""
    return (word >> place) & 1


def weight(word):
    """At how many places the word says yes."""
    heavy = 0
    while word != 0:
        # One less turns the least digit 1 to 0, so what both have lacks just that one.
        word &= word - 1
        heavy += 1
    return heavy


def where(word):
    """The rising tuple of the places at which the word says yes."""
    return tuple([place for place in range(word.bit_length()) if says(word, place) == 1])


def word_at(some):
    """The word that says yes just at these unlike places."""
    word = 0
    for place in some:
        word |= 1 << place
    return word


def plus(one, other):
    """The word that says yes where just one of both does."""
    return one ^ other


def times(one, other):
    """The word that says yes where both do."""
    return one & other


def unlike(one, other):
    """At how many places both words are unlike."""
    return weight(plus(one, other))


def against(many, word):
    """The word of many letters that says yes where this one says no."""
    return plus(word, all_yes(many))


def is_even(one, other):
    """Whether both words say yes together at an even number of places."""
    return weight(times(one, other)) % 2 == 0


def halves(many, word):
    """(low, high): the words that this one says where its last letter is no and yes."""
    low = times(word, all_yes(many - 1))
    high = word >> (1 << (many - 1))
    return (low, high)


def joined(many, low, high):
    """The word of many letters with these halves."""
    return plus(low, high << (1 << (many - 1)))
