"""How far rankings are apart: by how many pairs, and by which exchanges of neighbours."""


def apart(one, other):
    """How many pairs stand in one order in the one ranking and in the other order in the other."""
    stands = [other.index(place) for place in one]
    return sum(1 for at, number in enumerate(stands) for later in stands[at + 1:] if later < number)


def way_between(one, other):
    """A list of exchanges of neighbours, as few as there are, that lead from one ranking to the other."""
    now = list(one)
    way = []
    for goal, place in enumerate(other):
        at = now.index(place)
        # On its way to the front a place passes only those that belong behind it: each step is one
        # of the pairs by which the two are apart.
        way.extend(list(range(at - 1, goal - 1, -1)))
        now.insert(goal, now.pop(at))
    return way


def lies_between(one, middle, other):
    """Whether a ranking is from both others, together, no farther apart than they are from one another."""
    return apart(one, middle) + apart(middle, other) <= apart(one, other)
