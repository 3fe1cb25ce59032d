"""The exact lot: the one in which nothing rests."""

from leapranks.columns import column_of
from leapranks.lots import lot_by
from leapranks.wholes import common_divisor_of_all


def exact_lot(web):
    """The lot that fits with rests all 0, with the least grains."""
    grains, goings = solved(equations(web))
    divisor = common_divisor_of_all((grains, *goings))
    return lot_by(web, grains // divisor, tuple(going // divisor for going in goings))


def equations(web):
    """For each place j a list: each column's number at j, and at the end the leaps' number."""
    leaps = web[2]
    columns = [column_of(web, a) for a in range(len(leaps))]
    return [[column[j] for column in columns] + [leaps[j]] for j in range(len(leaps))]


def solved(lines):
    """A tuple (one, numbers): numbers over one are what solves the equations."""
    # In each column the number at its own place is greater than all others together without
    # signs: so each pivot is from 1 on, taken just in turn, and the last one is the determinant.
    many = len(lines)
    last = 1
    for at in range(many):
        chosen = lines[at]
        lines = [lines[k] if k == at else cleared(lines[k], chosen, at, last) for k in range(many)]
        last = chosen[at]
    return (last, [line[many] for line in lines])


def cleared(line, chosen, at, last):
    """The line with 0 at a place, by the chosen line; it comes out whole, divided by the last pivot."""
    return [(chosen[at] * x - line[at] * y) // last for x, y in zip(line, chosen)]
