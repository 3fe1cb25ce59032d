"""Tables: tuples (one, rows) that tell, for whatever leaps, how often each place is gone from."""

from leapranks.columns import lines_of
from leapranks.exact import solved
from leapranks.wholes import are_wholes, is_whole, sum_of_products


def table_of(web):
    """The table whose one is the determinant of the columns."""
    lines = lines_of(web)
    one, rows = solved([line + unit(len(lines), j) for j, line in enumerate(lines)])
    return (one, tuple(tuple(row) for row in rows))


def unit(many, at):
    """A list of so many numbers, 1 at a place, 0 elsewhere."""
    return [1 if k == at else 0 for k in range(many)]


def lets_table(web, thing):
    """Whether a thing is a table that is let by for the web."""
    many = len(web[0])
    if not has_table_form(many, thing):
        return False
    one, rows = thing
    turned_rows = list(zip(*rows))
    return all(
        sum_of_products(line, numbers) == (one if i == j else 0)
        for j, line in enumerate(lines_of(web))
        for i, numbers in enumerate(turned_rows)
    )


def has_table_form(many, thing):
    """Whether a thing has the form of a table of so many places, let by or not."""
    if not isinstance(thing, tuple) or len(thing) != 2:
        return False
    one, rows = thing
    if not is_whole(one) or one < 1 or not isinstance(rows, tuple) or len(rows) != many:
        return False
    return all(are_wholes(many, row) for row in rows)
