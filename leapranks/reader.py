"""Reading: webs, lots, fractions and rankings of just the texts that are written of them."""

from leapranks.errors import NoText
from leapranks.fractions import is_fraction
from leapranks.lots import has_form
from leapranks.rankings import is_ranking
from leapranks.webs import MOST_PLACES, are_leaps, are_names, are_ties, is_chance

FIGURES = "0123456789"
MOST_FIGURES = 200
LOT_BEGIN = "lot "


def read_web(text):
    """The web of a text; NoText tells the first line that can't stand there."""
    look_at_text(text)
    lines = text.split("\n")
    chance = read_chance(lines)
    names, leaps = read_places(lines)
    falls = read_falls(lines, leaps)
    ties = read_ties(lines, names)
    return (names, ties, leaps, chance, falls)


def read_lot(text):
    """The lot of a text, fitting or not."""
    look_at_text(text)
    parts = text.split(": ")
    if len(parts) != 3 or not parts[0].startswith(LOT_BEGIN):
        raise NoText(0)
    grains = read_number(parts[0][len(LOT_BEGIN):], MOST_FIGURES)
    goings = read_numbers(parts[1].split(","))
    lot = (grains, goings, read_numbers(parts[2].split(",")))
    if len(goings) > MOST_PLACES or not has_form(len(goings), lot):
        raise NoText(0)
    return lot


def read_fraction(text):
    """The fraction of a text."""
    look_at_text(text)
    one = read_numbers(text.split("/"))
    if not is_fraction(one):
        raise NoText(0)
    return one


def read_ranking(web, text):
    """The ranking of all places of the web, of their names."""
    look_at_text(text)
    names = web[0]
    ranking = tuple(place_of(names, word) for word in text.split(" > "))
    if not is_ranking(len(names), ranking):
        raise NoText(0)
    return ranking


def look_at_text(thing):
    """Refuses what is no text."""
    if not isinstance(thing, str):
        raise NoText(0)


def words_at(lines, at):
    """The words of the line numbered at; where lines lack, it is refused."""
    if at >= len(lines):
        raise NoText(at)
    return lines[at].split(" ")


def read_chance(lines):
    """The chance of a web's first line."""
    first, *rest = words_at(lines, 0)
    chance = read_numbers(rest)
    if first != "chance" or not is_chance(chance):
        raise NoText(0)
    return chance


def read_places(lines):
    """The names and the leaps of a web's places, two tuples."""
    names = ()
    leaps = ()
    at = 1
    words = words_at(lines, at)
    while words[0] == "place":
        if len(words) != 3:
            raise NoText(at)
        names = (*names, words[1])
        leaps = (*leaps, read_number(words[2], MOST_FIGURES))
        if not may_begin(names, leaps):
            raise NoText(at)
        at += 1
        words = words_at(lines, at)
    return (names, leaps)


def may_begin(names, leaps):
    """Whether the places of some web begin with these names and leaps."""
    many = len(names)
    if not are_names(names):
        return False
    # All leaps may still be 0 where another place can follow, with other ones.
    return are_leaps(many, leaps) or (many < MOST_PLACES and are_leaps(many + 1, (*leaps, 1)))


def read_falls(lines, leaps):
    """The falls of the line behind the places, which have these leaps."""
    at = 1 + len(leaps)
    first, *rest = words_at(lines, at)
    falls = read_numbers(rest)
    stays = first == "stay" and falls == ()
    if not stays and (first != "falls" or not are_leaps(len(leaps), falls)):
        raise NoText(at)
    # Without a place, or with leaps that are all 0, nothing can stand behind the places.
    if not are_leaps(len(leaps), leaps):
        raise NoText(at)
    return falls


def read_ties(lines, names):
    """The ties of all lines behind the falls, between the places of these names."""
    ties = ()
    for at in range(2 + len(names), len(lines)):
        words = words_at(lines, at)
        if len(words) != 4 or words[0] != "tie":
            raise NoText(at)
        tie = (place_of(names, words[1]), place_of(names, words[2]), read_number(words[3], MOST_FIGURES))
        ties = (*ties, tie)
        if not are_ties(len(names), ties):
            raise NoText(at)
    return ties


def place_of(names, word):
    """The place of that name, or None."""
    return names.index(word) if word in names else None


def read_numbers(words):
    """The numbers of words, a tuple, None for each word that is none."""
    return tuple(read_number(word, MOST_FIGURES) for word in words)


def read_number(word, most):
    """The number that a word is, written plainly in at most so many figures, or None."""
    figures = word[1:] if word.startswith("-") else word
    # Figures are counted before they are read: Python refuses to read some thousand of them.
    if not 1 <= len(figures) <= most or not all(figure in FIGURES for figure in figures):
        return None
    if figures.startswith("0") and word != "0":
        return None
    return int(word)
