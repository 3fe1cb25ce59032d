"""The column of a place: what one going from there takes away and brings, place by place."""

from leapranks.rows import row_of


def column_of(web, a):
    """The column of the place a, a tuple with a number for each place."""
    p, q = web[3]
    row = row_of(web, a)
    column = [-(q - p) * number for number in row]
    column[a] += q * sum(row)
    return tuple(column)


def size_of(web, a):
    """The size of the place a: its column's number at its own place."""
    return column_of(web, a)[a]
