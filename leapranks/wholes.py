"""Whole numbers, as all other modules need them."""


def is_whole(thing):
    """Whether a thing is an int that is no truth."""
    return isinstance(thing, int) and not isinstance(thing, bool)


def are_wholes(many, thing):
    """Whether a thing is a tuple of so many whole numbers."""
    return isinstance(thing, tuple) and len(thing) == many and all(is_whole(one) for one in thing)


def common_divisor(one, other):
    """The greatest number that divides both, from 0 on; 0 where both are 0."""
    one, other = abs(one), abs(other)
    while other > 0:
        one, other = other, one % other
    return one


def common_divisor_of_all(numbers):
    """The greatest number that divides all of them; 0 where all are 0."""
    divisor = 0
    for number in numbers:
        divisor = common_divisor(divisor, number)
    return divisor
