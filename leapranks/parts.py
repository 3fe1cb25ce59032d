"""Parts: rising tuples of places; closed ones aren't left by rows."""

from leapranks.rows import row_of


def is_closed(web, part):
    """Whether the rows of the part's places lead to it alone."""
    return all(goal in part for a in part for goal in goals_of(web, a))


def goals_of(web, a):
    """The places to which the row of the place a leads, a rising list."""
    return [goal for goal, number in enumerate(row_of(web, a)) if number > 0]


def least_closed(web):
    """A rising list of the closed parts that have no other closed part within them."""
    reaches = [led_to(web, a) for a in range(len(web[0]))]
    # What rows lead to from a place is closed; it is a least one where no place in it leads to less.
    return sorted({reach for reach in reaches if all(reaches[b] == reach for b in reach)})


def led_to(web, a):
    """All places to which rows lead from the place a, step by step, and a itself: a rising tuple."""
    met = {a: True}
    waiting = [a]
    while waiting:
        place = waiting.pop()
        for goal in goals_of(web, place):
            if goal not in met:
                met[goal] = True
                waiting.append(goal)
    return tuple(sorted(met))
