"""What several tests share: things of every kind, pools of many kinds, and how a refusal is looked at."""

from leasepair.pools import Pool

WIDE = 10 ** 60 - 1


def nested(make, depth):
    thing = make([])
    for step in range(depth - 1):
        thing = make([thing])
    return thing


# Things of every kind that a refusal "of any thing" may be handed.
THINGS = [
    None, True, False, 0, 1, -1, 7, 999999, 1000000, 10 ** 12, WIDE, -WIDE,
    "", "a", "c", "one", "none", "3-7,9", " ", "~" * 2000, "A", "abcdefghi",
    (), [], (None,), [None], ((),), [()], ([],), [[]], (1,), (1, 2), (1, 2, 3), [1, 2],
    ("a",), ["a"], ("",), nested(tuple, 8), nested(list, 8), tuple([0] * 600), [True] * 600,
    ((1, 2), None), ((1, 2), [3, 4]), [(1, 2)], (((1, 2),),),
]


def refused(case, error, call, *args, **named):
    """The refusal of a call, which must be of this very class."""
    with case.assertRaises(error) as caught:
        call(*args, **named)
    case.assertIs(type(caught.exception), error)
    return caught.exception


def assert_same(case, one, other, is_same):
    """Whether two are the same, asked of each, both by == and by !=."""
    case.assertIs(one == other, is_same)
    case.assertIs(other == one, is_same)
    case.assertIs(one != other, not is_same)
    case.assertIs(other != one, not is_same)


def numbers_of(stretches):
    return {number for low, high in stretches for number in range(low, high + 1)}


def fewest_of(numbers):
    """The fewest stretches of a set of numbers, reckoned number by number."""
    found = []
    for number in sorted(numbers):
        if number - 1 in numbers:
            found[-1][1] = number
        else:
            found.append([number, number])
    return tuple((low, high) for low, high in found)


def some_stretches(source, most=20, top=60):
    lows = [source.randrange(top) for step in range(source.randint(0, most))]
    return tuple((low, low + source.choice((0, 0, 1, 2, 5))) for low in lows)


def many_singles(count, step=2, first=0):
    """A pool of so many stretches of one number each, more than Pool takes at once."""
    pool = Pool()
    for place in range(count):
        number = first + place * step
        pool = pool.joined(Pool(((number, number),)))
    return pool


BIG = 999999999999
KINDS = ("find", "offer", "want", "grant", "deny", "renew", "free", "spoil", "told", "seen", "give", "back", "books")
# Each field that may be left out, in the interface's order, with its default.
DEFAULTS = {
    "mark": 0, "number": None, "span": 0, "turn": 0, "count": 0, "end": None, "who": "", "link": "", "via": (), "rows": (),
}
# Values of each of these fields that aren't its default.
VALUES = {
    "mark": (1, 255, 256, 65536, BIG),
    "number": (0, 7, 256, 65535, 999999),
    "span": (1, 60, BIG),
    "turn": (1, 300, BIG),
    "count": (1, 70000, BIG),
    "end": (0, 1, -1, 256, -256, BIG, -BIG),
    "who": ("c", "one", "abcdefgh", "z"),
    "link": ("l", "two", "zyxwvuts"),
    "via": (("r",), ("r", "q"), ("a", "b", "c", "abcdefgh"), ("abcdefgh",) * 4, ("r", "r")),
    "rows": (
        ((7, 0, False, "", None),),
        ((0, 0, True, "", 0), (999999, BIG, True, "abcdefgh", -BIG), (1, 1, False, "c", BIG), (1, 1, False, "c", -1)),
        tuple((k, k * 300, k % 2 == 0, "c" * (k % 9), None if k % 3 == 0 else 5 - k) for k in range(60)),
    ),
}


def told_fields(letter):
    """All fields of a letter, in the interface's order."""
    names = ["kind", "sender", "receiver"] + list(DEFAULTS)
    return [getattr(letter, name) for name in names]
