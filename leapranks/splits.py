"""Splits: tuples (numbers, total) that share walkers out among places."""

from leapranks.fractions import fraction
from leapranks.wholes import are_wholes, common_divisor_of_all, is_whole


def is_split(many, thing):
    """Whether a thing is a split of so many places."""
    if not isinstance(thing, tuple) or len(thing) != 2:
        return False
    numbers, total = thing
    if not are_wholes(many, numbers) or not is_whole(total):
        return False
    if any(number < 0 for number in numbers) or total != sum(numbers):
        return False
    # Numbers that are all 0 have the divisor 0, so the total needs no look of its own.
    return common_divisor_of_all(numbers) == 1


def split_of(numbers):
    """The split that numbers from 0 on, not all 0, make."""
    divisor = common_divisor_of_all(numbers)
    parts = tuple(number // divisor for number in numbers)
    return (parts, sum(parts))


def share_of(split, a):
    """The share of the place a, a fraction."""
    numbers, total = split
    return fraction(numbers[a], total)


def gap(one, other):
    """The sum of how much the shares of two splits differ, without signs: a fraction."""
    ones, total_one = one
    others, total_other = other
    apart = sum(abs(x * total_other - y * total_one) for x, y in zip(ones, others))
    return fraction(apart, total_one * total_other)
