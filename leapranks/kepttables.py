"""Tables kept while a tie changes: reckoned by the one changed column."""

from leapranks.changes import column_growth
from leapranks.wholes import sum_of_products


def table_changed(web, table, change):
    """The table of the changed web, of the table of the web as it was."""
    more = column_growth(web, change)
    a = change[0]
    one, rows = table
    growths = [sum_of_products(row, more) for row in rows]
    new_one = one + growths[a]
    return (new_one, tuple(row_changed(one, new_one, row, growth, rows[a]) for row, growth in zip(rows, growths)))


def row_changed(one, new_one, row, growth, kept):
    """A row of the changed table; kept is the row of the place whose column changes."""
    # A table's rows are the columns turned back, times the determinant: so this division by the
    # old determinant comes out whole, and the row kept stays as it is.
    return tuple((new_one * number - growth * other) // one for number, other in zip(row, kept))
