"""Webs for the tests, and things of all other kinds."""

import copy

PAIR = (("left", "right"), ((0, 1, 2),), (1, 0), (1, 2), ())
PAIR_FALLS = (("left", "right"), ((0, 1, 2),), (1, 0), (1, 2), (3, 1))
LONE = (("a",), (), (1,), (1, 1), ())
LONE_LOOP = (("lone",), ((0, 0, 30),), (30,), (1, 12), ())
THREE = (("one", "two", "three"),
         ((0, 0, 1), (0, 1, 2), (0, 2, 4), (2, 0, 3)),
         (2, 0, 5), (1, 3), ())
THREE_FALLS = (("one", "two", "three"),
               ((0, 0, 1), (0, 1, 2), (0, 2, 4), (2, 0, 3)),
               (2, 0, 5), (2, 4), (0, 6, 1))
ALWAYS = (("one", "two", "three"),
          ((0, 0, 1), (0, 1, 2), (0, 2, 4), (2, 0, 3)),
          (2, 0, 5), (3, 3), (0, 6, 1))
TWO_ISLES = (("a", "b", "c", "d"), ((0, 1, 1), (1, 0, 1), (2, 3, 5), (3, 2, 7)),
             (0, 0, 1, 1), (1, 6), ())
TEN_NAMES = ("a", "b", "c", "d", "e", "f", "g", "h", "i", "abcdefgh")
TEN = (TEN_NAMES,
       tuple(sorted((a, (a * a + 3 * step + 1) % 10, 1 + (7 * a + 11 * step) % 30)
                    for a in range(10) for step in range(4))),
       (1, 0, 30, 2, 0, 0, 7, 0, 29, 3), (1, 12), (0, 0, 0, 0, 30, 0, 0, 0, 0, 1))
TEN_BARE = (TEN_NAMES, (), (0, 0, 0, 0, 0, 0, 0, 0, 0, 1), (2, 11), ())
TEN_FALL = (TEN_NAMES, ((9, 0, 1),), (30,) * 10, (5, 12), (1, 2, 3, 4, 5, 6, 7, 8, 9, 10))

OF_ANY_KIND = (
    None, True, False, 0, 1, -1, 7, 10 ** 30, "", "a", "one\ntwo", "(1, 2)",
    (), (1,), (1, 2), (True, 1), (1, True), (None,), ((),), ((1,), 1), ((1, 0), 1),
    ([1], 1), [], [1], [1, 2], [(1, 2)], {}, {"a": 1}, {0: (1, 2), 1: [None]},
    (1, 2, 3), (1, 2, 3, 4), (1, 2, 3, 4, 5), ("a", "b", "c"), ([], [], []),
    ((), (), (), (), ()), (None, None), ("1", "2"), ({}, {}), ({}, {}, {}), (1, (), ()),
    ((((((((((((1,),),),),),),),),),),),), tuple(range(2000)), list(range(2000)),
)

HUGE = int("7" * 200)


class Numbers:
    """The same row of numbers at each run, under each Python."""

    def __init__(self, seed):
        self.state = seed

    def drawn(self):
        self.state = (self.state * 6364136223846793005 + 1442695040888963407) % 2 ** 64
        return self.state >> 33

    def below(self, many):
        number, reach = self.drawn(), 2 ** 31
        while reach < many:
            number, reach = number * 2 ** 31 + self.drawn(), reach * 2 ** 31
        return number % many

    def between(self, low, high):
        return low + self.below(high - low + 1)


def some_leaps(numbers, many):
    leaps = [numbers.between(0, 30) * numbers.below(2) for k in range(many)]
    leaps[numbers.below(many)] = numbers.between(1, 30)
    return tuple(leaps)


def some_web(numbers):
    many = numbers.between(1, 10)
    ends = sorted({(numbers.below(many), numbers.below(many)) for k in range(numbers.between(0, 40))})
    ties = tuple((a, b, numbers.between(1, 30)) for a, b in ends)
    q = numbers.between(1, 12)
    falls = some_leaps(numbers, many) if numbers.below(2) else ()
    return (TEN_NAMES[:many], ties, some_leaps(numbers, many), (numbers.between(1, q), q), falls)


def some_webs(seed, many):
    numbers = Numbers(seed)
    return [some_web(numbers) for k in range(many)]


NAMED_WEBS = (PAIR, PAIR_FALLS, LONE, LONE_LOOP, THREE, THREE_FALLS, ALWAYS, TWO_ISLES,
              TEN, TEN_BARE, TEN_FALL)


def all_webs():
    return list(NAMED_WEBS) + some_webs(20, 30)


def plain(thing):
    """Whether a thing is built of nothing but the plain kinds, none of a kind of its own."""
    if type(thing) in (tuple, list):
        return all(plain(part) for part in thing)
    return thing is None or type(thing) in (int, str, bool)


def left_alone(test, call, *handed):
    """What a call tells; fails where it changes what it was handed or tells unlike things."""
    before = copy.deepcopy(handed)
    told = call(*handed)
    test.assertEqual(repr(before), repr(handed))
    test.assertEqual(repr(told), repr(call(*handed)))
    test.assertTrue(plain(told))
    return told


def with_part(things, at, part):
    """The tuple with one part exchanged."""
    return things[:at] + (part,) + things[at + 1:]


def some_split(numbers, many, most=20):
    """A split made without the program: one number is 1, so nothing divides all."""
    parts = [numbers.between(0, most) for k in range(many)]
    parts[numbers.below(many)] = 1
    return (tuple(parts), sum(parts))
