"""The exact lot: the one in which nothing rests."""

from leapranks.columns import lines_of
from leapranks.lots import lot_by
from leapranks.wholes import common_divisor_of_all


def exact_lot(web):
    """The lot that fits with rests all 0, with the least grains."""
    grains, rights = solved([[*line, leap] for line, leap in zip(lines_of(web), web[2])])
    goings = [right[0] for right in rights]
    divisor = common_divisor_of_all((grains, *goings))
    return lot_by(web, grains // divisor, tuple(going // divisor for going in goings))


def solved(lines):
    """A tuple (one, rights), of the lines of columns with further numbers at their ends.

    Each right is a list, for a place: over one, its numbers solve the equations, end by end.
    One is the determinant of the columns.
    """
    # In each column the number at its own place is no less than all others together without signs;
    # where it is just as great, these lead, place by place, to a column where it is greater. So each
    # pivot is from 1 on, taken just in turn, and the last one is the determinant.
    many = len(lines)
    last = 1
    for at in range(many):
        chosen = lines[at]
        lines = [lines[k] if k == at else cleared(lines[k], chosen, at, last) for k in range(many)]
        last = chosen[at]
    return (last, [line[many:] for line in lines])


def cleared(line, chosen, at, last):
    """The line with 0 at a place, by the chosen line; it comes out whole, divided by the last pivot."""
    return [(chosen[at] * x - line[at] * y) // last for x, y in zip(line, chosen)]
