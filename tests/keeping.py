"""What the tests of keepers share: keepers in each state, their books, and the letters that they are handed."""

from leasepair.keepers import Keeper
from leasepair.letters import Letter
from leasepair.pools import Pool
from leasepair.settings import Settings

# By point 5 keeper one has the titles of 2, 4 and 6, of 11 and 20; two has those of 1, 3, 5, 10 and 12.
LINKS = (("l", Pool(((1, 6),))), ("k", Pool(((10, 12), (20, 20)))), ("m", Pool()))
NUMBERS = (1, 2, 3, 4, 5, 6, 10, 11, 12, 20)
OF_ONE = (2, 4, 6, 11, 20)
OF_TWO = (1, 3, 5, 10, 12)
OTHER_NUMBERS = (-1, 0, 7, 9, 13, 19, 21, 999999, 10 ** 59, -10 ** 59)
FIELDS = ("title", "count", "who", "end", "turn", "far", "seen", "since")
PATH = {"mark": 5, "link": "l", "via": ("r", "q")}
STATES = ("paired", "alone", "back")


def keeper(name="one", links=LINKS, **settings):
    return Keeper(name, links=links, settings=Settings(**settings))


def other_of(name):
    return {"one": "two", "two": "one"}[name]


def keeper_in(state, name="one", reading=0, **settings):
    made = keeper(name, **settings)
    if state == "alone":
        made.alone(reading)
    elif state == "back":
        made.start()
    return made


def row(title, count=0, who="", end=None, turn=0, far=None, seen=None, since=None):
    """An entry as a keeper tells it; what is left out is as at first."""
    return title, count, who, end, turn, far, seen, since


def changed(entry, **named):
    """An entry with these parts otherwise."""
    return tuple(named.get(field, value) for field, value in zip(FIELDS, entry))


def books(made):
    """All that a keeper tells of itself."""
    return [made.state()] + [made.entry(number) for number in NUMBERS]


# Letters of askers, as they come through the relays r and q of link l.

def find(sender="c", receiver="", **named):
    return Letter("find", sender, receiver, **{**PATH, **named})


def want(number, who="one", sender="c", receiver="", **named):
    return Letter("want", sender, receiver, number=number, who=who, **{**PATH, **named})


def renew(number, sender="c", receiver="", **named):
    return Letter("renew", sender, receiver, number=number, **{**PATH, **named})


def hand_in(kind, number, turn, who="one", sender="c", receiver="one", **named):
    return Letter(kind, sender, receiver, number=number, turn=turn, who=who, **{**PATH, "mark": 0, **named})


# Answers to them.

def offer(number, sender="one", receiver="c", **named):
    return Letter("offer", sender, receiver, number=number, **{**PATH, **named})


def deny(number, sender="one", receiver="c", **named):
    return Letter("deny", sender, receiver, number=number, **{**PATH, **named})


def grant(number, span, turn, sender="one", receiver="c", **named):
    return Letter("grant", sender, receiver, number=number, span=span, turn=turn, **{**PATH, **named})


# Letters between keepers.

def told(number, count, who, end, sender="one"):
    return Letter("told", sender, other_of(sender), number=number, count=count, who=who, end=end)


def seen(number, count, end, sender="one"):
    return Letter("seen", sender, other_of(sender), number=number, count=count, end=end)


def give(number, count, sender="one"):
    return Letter("give", sender, other_of(sender), number=number, count=count)


def back(mark, sender="one"):
    return Letter("back", sender, other_of(sender), mark=mark)


def books_letter(mark, rows, sender="one"):
    return Letter("books", sender, other_of(sender), mark=mark, rows=tuple(rows))
