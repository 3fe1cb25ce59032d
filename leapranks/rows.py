"""The row of a place: by which numbers a walker goes on from there when he doesn't leap."""


def row_of(web, a):
    """The row of the place a, a tuple with a number for each place."""
    names, ties, leaps, chance, falls = web
    row = [0] * len(names)
    for start, goal, weight in ties:
        if start == a:
            row[goal] = weight
    if any(number > 0 for number in row):
        return tuple(row)
    if falls != ():
        return tuple(falls)
    row[a] = 1
    return tuple(row)


def weight_of(web, a):
    """The weight of the place a: the sum of its row."""
    return sum(row_of(web, a))
