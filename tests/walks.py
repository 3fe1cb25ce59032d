"""The walk reckoned by Python's own fractions, as the document's points 5 and 8 tell it."""

from fractions import Fraction


def chances_from(web, a):
    """With which chance a walker at a who doesn't leap goes to each place."""
    names, ties, leaps, chance, falls = web
    out = {goal: weight for start, goal, weight in ties if start == a}
    if not out and falls:
        out = dict(enumerate(falls))
    if not out:
        out = {a: 1}
    return [Fraction(out.get(place, 0), sum(out.values())) for place in range(len(names))]


def parts_of(split):
    return [Fraction(number, split[1]) for number in split[0]]


def turned_once(web, parts):
    """The parts of walkers behind one turn."""
    leap = Fraction(*web[3])
    chances = [chances_from(web, a) for a in range(len(parts))]
    return [leap * Fraction(web[2][j], sum(web[2]))
            + (1 - leap) * sum(part * row[j] for part, row in zip(parts, chances))
            for j in range(len(parts))]


def distance(one, other):
    return sum(abs(x - y) for x, y in zip(one, other))


def as_pair(one):
    return (one.numerator, one.denominator)


def shares_by_elimination(web):
    """The parts of walkers that a turn leaves as they are, by plain elimination."""
    many = len(web[0])
    leap = Fraction(*web[3])
    chances = [chances_from(web, a) for a in range(many)]
    lines = [[Fraction(int(a == j)) - (1 - leap) * chances[a][j] for a in range(many)]
             + [leap * Fraction(web[2][j], sum(web[2]))] for j in range(many)]
    for at in range(many):
        pivot = next(k for k in range(at, many) if lines[k][at])
        lines[at], lines[pivot] = lines[pivot], lines[at]
        lines[at] = [x / lines[at][at] for x in lines[at]]
        for k in range(many):
            if k != at:
                lines[k] = [x - lines[k][at] * y for x, y in zip(lines[k], lines[at])]
    return [line[-1] for line in lines]
