"""Tables kept while a tie changes: reckoned by the one changed column."""

from leapranks.changes import changed
from leapranks.columns import column_of
from leapranks.wholes import sum_of_products


def table_changed(web, table, change):
    """The table of the changed web, of the table of the web as it was."""
    behind = changed(web, change)
    a = change[0]
    one, rows = table
    more = [new - old for old, new in zip(column_of(web, a), column_of(behind, a))]
    growths = [sum_of_products(row, more) for row in rows]
    new_one = one + growths[a]
    return (new_one, tuple(row_changed(one, new_one, row, growth, rows[a]) for row, growth in zip(rows, growths)))


def row_changed(one, new_one, row, growth, kept):
    """A row of the changed table; kept is the row of the place whose column changes."""
    # A table's rows are the columns turned back, times the determinant: so this division by the
    # old determinant comes out whole, and the row kept stays as it is.
    return tuple((new_one * number - growth * other) // one for number, other in zip(row, kept))
