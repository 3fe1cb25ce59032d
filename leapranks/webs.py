"""Webs: tuples (names, ties, leaps, chance, falls), and what they are made of."""

from leapranks.wholes import are_wholes

LETTERS = "abcdefghijklmnopqrstuvwxyz"
MOST_LETTERS = 8
MOST_PLACES = 10
MOST_TIES = 40
MOST_WEIGHT = 30
MOST_LEAPS = 30
MOST_CHANCE = 12


def is_web(thing):
    """Whether a thing is a web."""
    if not isinstance(thing, tuple) or len(thing) != 5:
        return False
    names, ties, leaps, chance, falls = thing
    if not are_names(names):
        return False
    many = len(names)
    if not are_ties(many, ties) or not are_leaps(many, leaps) or not is_chance(chance):
        return False
    return falls == () or are_leaps(many, falls)


def are_names(thing):
    """Whether a thing is a tuple of one to ten unlike names."""
    if not isinstance(thing, tuple) or not 1 <= len(thing) <= MOST_PLACES:
        return False
    return all(is_name(name) for name in thing) and len(set(thing)) == len(thing)


def is_name(thing):
    """Whether a thing is a word of one to eight small letters."""
    if not isinstance(thing, str) or not 1 <= len(thing) <= MOST_LETTERS:
        return False
    return all(letter in LETTERS for letter in thing)


def are_ties(many, thing):
    """Whether a thing is a rising tuple of ties between so many places."""
    if not isinstance(thing, tuple) or len(thing) > MOST_TIES:
        return False
    if not all(is_tie(many, 1, tie) for tie in thing):
        return False
    # The weight is left out of the comparison: so no two ties have the same ends.
    return all(one[:2] < other[:2] for one, other in zip(thing, thing[1:]))


def is_tie(many, least, thing):
    """Whether a thing is a tuple (a, b, weight) for so many places, weight from least on."""
    if not are_wholes(3, thing):
        return False
    a, b, weight = thing
    return 0 <= a < many and 0 <= b < many and least <= weight <= MOST_WEIGHT


def are_leaps(many, thing):
    """Whether a thing is a tuple of so many leaps' numbers, not all 0."""
    if not are_wholes(many, thing):
        return False
    return all(0 <= number <= MOST_LEAPS for number in thing) and any(number > 0 for number in thing)


def is_chance(thing):
    """Whether a thing is a tuple (p, q), 1 <= p <= q <= 12, in lowest terms or not."""
    if not are_wholes(2, thing):
        return False
    p, q = thing
    return 1 <= p <= q <= MOST_CHANCE
