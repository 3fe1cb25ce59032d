"""A desk: is told rows of words about a web and answers each with a text."""

from leapranks.changes import changed
from leapranks.errors import NoName, NoNumber, NoRow
from leapranks.keeper import Keeper
from leapranks.parts import least_closed
from leapranks.rankings import ranking_of
from leapranks.reader import place_of, read_number, read_web
from leapranks.shares import shares_of
from leapranks.splits import share_of
from leapranks.texts import show_fraction, show_lot, show_ranking, show_web
from leapranks.wholes import is_whole

MOST_GRAINS = 1000000
MOST_FIGURES = 30

# What stands behind the first word of each row; behind `leaps` there is a number for each place.
FORMS = {
    "tie": "name name number",
    "push": "name number",
    "settle": "",
    "back": "",
    "web": "",
    "lot": "",
    "ends": "name",
    "share": "name",
    "ranking": "",
    "ahead": "name name",
    "behind": "name name name number",
    "parts": "",
}


def tie_row(keeper, things):
    """Sets a tie; the names of the places whose rest is another one."""
    return show_places(keeper, keeper.tie(things))


def leaps_row(keeper, things):
    """Changes the leaps; the names of the places whose rest is another one."""
    return show_places(keeper, keeper.leap(things))


def push_row(keeper, things):
    """Pushes a place; the names of the places whose rest is another one."""
    a, many = things
    return show_places(keeper, keeper.push(a, many))


def settle_row(keeper, things):
    """Pushes all to an end; the names of the places whose rest is another one."""
    return show_places(keeper, keeper.settle())


def back_row(keeper, things):
    """Takes the last deed back; the names of the places whose rest is another one."""
    return show_places(keeper, keeper.back())


def web_row(keeper, things):
    """The text of the web, in one line."""
    return show_web(keeper.web()).replace("\n", "; ")


def lot_row(keeper, things):
    """The text of the lot."""
    return show_lot(keeper.lot())


def ends_row(keeper, things):
    """The ends of a place."""
    low, high = keeper.ends(things[0])
    return f"{show_fraction(low)} {show_fraction(high)}"


def share_row(keeper, things):
    """The share of a place among the web's shares."""
    return show_fraction(share_of(shares_of(keeper.web()), things[0]))


def ranking_row(keeper, things):
    """The ranking by the web's shares."""
    web = keeper.web()
    return show_ranking(web, ranking_of(shares_of(web)))


def ahead_row(keeper, things):
    """Whether a place is surely ahead of another one."""
    return "yes" if things in keeper.ahead() else "no"


def behind_row(keeper, things):
    """The share of a place in the web in which a tie has another weight."""
    k, a, b, weight = things
    return show_fraction(share_of(shares_of(changed(keeper.web(), (a, b, weight))), k))


def parts_row(keeper, things):
    """The least closed parts."""
    web = keeper.web()
    names = web[0]
    return " ".join("+".join([names[a] for a in part]) for part in least_closed(web))


ANSWERS = {
    "tie": tie_row,
    "leaps": leaps_row,
    "push": push_row,
    "settle": settle_row,
    "back": back_row,
    "web": web_row,
    "lot": lot_row,
    "ends": ends_row,
    "share": share_row,
    "ranking": ranking_row,
    "ahead": ahead_row,
    "behind": behind_row,
    "parts": parts_row,
}


class Desk:
    """Keeps a keeper of a web's text, and leads it by rows of words."""

    def __init__(self, text, grains):
        web = read_web(text)
        if not is_whole(grains) or not 1 <= grains <= MOST_GRAINS:
            raise NoNumber("grains are a whole number from 1 to 1000000")
        self.keeper = Keeper(web, grains)

    def say(self, row):
        """Does or answers what a row of words says: a text."""
        first, things = read_row(self.keeper.web()[0], row)
        answer = ANSWERS[first]
        return answer(self.keeper, things)


def read_row(names, row):
    """The first word of a row, and a tuple of the places and numbers that its other words tell."""
    if not isinstance(row, str):
        raise NoRow("no text")
    first, *others = row.split(" ")
    if first not in ANSWERS:
        raise NoRow("no row begins so")
    form = ["number"] * len(names) if first == "leaps" else FORMS[first].split()
    if len(others) != len(form):
        raise NoRow("no such row has so many words")
    return (first, tuple(read_word(names, kind, word) for kind, word in zip(form, others)))


def read_word(names, kind, word):
    """The place or the number that a word tells."""
    if kind == "name":
        place = place_of(names, word)
        if place is None:
            raise NoName("no place of this name")
        return place
    number = read_number(word, MOST_FIGURES)
    if number is None:
        raise NoNumber("no number written plainly")
    return number


def show_places(keeper, places):
    """The names of places, blanks between; `none` without any."""
    names = keeper.web()[0]
    return " ".join(names[a] for a in places) if places else "none"
