"""Texts of webs, lots, fractions and rankings."""

FIGURES = 60
PART = 10 ** 60


def show_web(web):
    """The lines of a web."""
    names, ties, leaps, chance, falls = web
    lines = [words("chance", chance)]
    lines.extend([words(f"place {name}", (leap,)) for name, leap in zip(names, leaps)])
    lines.append("stay" if falls == () else words("falls", falls))
    lines.extend([words(f"tie {names[a]} {names[b]}", (weight,)) for a, b, weight in ties])
    return "\n".join(lines)


def show_lot(lot):
    """The line of a lot, fitting or not."""
    grains, goings, rest = lot
    return f"lot {show_number(grains)}: {with_commas(goings)}: {with_commas(rest)}"


def show_fraction(one):
    """The text of a fraction."""
    top, bottom = one
    return f"{show_number(top)}/{show_number(bottom)}"


def show_ranking(web, ranking):
    """The names of all places in the ranking's order."""
    names = web[0]
    return " > ".join(names[a] for a in ranking)


def words(start, numbers):
    """A line of words: a start and numbers, a blank ahead of each."""
    return " ".join([start] + [show_number(number) for number in numbers])


def with_commas(numbers):
    """Numbers with commas between."""
    return ",".join(show_number(number) for number in numbers)


def show_number(number):
    """The figures of a whole number, - ahead where it is below 0."""
    sign = "-" if number < 0 else ""
    rest = abs(number)
    parts = []
    # Python itself refuses to write a number of some thousand figures, so it is written part by part.
    while rest >= PART:
        parts.append(str(rest % PART).zfill(FIGURES))
        rest //= PART
    parts.append(f"{sign}{rest}")
    parts.reverse()
    return "".join(parts)
