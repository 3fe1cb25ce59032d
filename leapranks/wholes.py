"""Whole numbers, as all other modules need them."""


def is_whole(thing):
    """Whether a thing is an int that is no truth."""
    return isinstance(thing, int) and not isinstance(thing, bool)


def are_wholes(many, thing):
    """Whether a thing is a tuple of so many whole numbers."""
    return isinstance(thing, tuple) and len(thing) == many and all(is_whole(one) for one in thing)


def has_each_once(many, thing):
    """Whether a thing is a tuple with each number from 0 to below many once."""
    return are_wholes(many, thing) and sorted(thing) == list(range(many))


def sum_of_products(ones, others):
    """The sum of the products of two rows of numbers, place by place."""
    return sum(x * y for x, y in zip(ones, others))


def product_of(numbers):
    """All numbers multiplied."""
    product = 1
    for number in numbers:
        product *= number
    return product


def common_divisor(one, other):
    """The greatest number that divides both, from 0 on; 0 where both are 0."""
    one, other = abs(one), abs(other)
    while other > 0:
        one, other = other, one % other
    return one


def common_divisor_of_all(numbers):
    """The greatest number that divides all of them; 0 where all are 0."""
    divisor = 0
    for number in numbers:
        divisor = common_divisor(divisor, number)
    return divisor


def first_small_rest(modulus, number, most):
    """A tuple (rest, times): the first rest of dividing both by turns that is no greater than most.

    Times that number leaves, divided by the modulus, what the rest leaves.
    """
    ahead, rest = modulus, number
    times_ahead, times = 0, 1
    while rest > most:
        whole = ahead // rest
        ahead, rest = rest, ahead - whole * rest
        times_ahead, times = times, times_ahead - whole * times
    return (rest, times)
