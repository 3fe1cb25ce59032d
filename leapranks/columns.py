"""The column of a place: what one going from there takes away and brings, place by place."""

from leapranks.rows import row_of


def column_of(web, a):
    """The column of the place a, a tuple with a number for each place."""
    p, q = web[3]
    row = row_of(web, a)
    column = [-(q - p) * number for number in row]
    column[a] += q * sum(row)
    return tuple(column)


def size_of(web, a):
    """The size of the place a: its column's number at its own place."""
    return column_of(web, a)[a]


def lines_of(web):
    """For each place j a list: each column's number at j, place by place."""
    places = list(range(len(web[0])))
    columns = [column_of(web, a) for a in places]
    return [[column[j] for column in columns] for j in places]
