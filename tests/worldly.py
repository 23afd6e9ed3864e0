"""What the tests of worlds share: worlds, what is done in them, and all that they tell."""

from leasepair.errors import NoClock, NoDeed, NoEvent, NoName, NoNumber, NoPlace
from leasepair.pools import Pool
from leasepair.settings import Settings
from leasepair.worlds import World

# By point 5 keeper one has the titles of 2, 4, 6 and 11, two those of 1, 3, 5, 10 and 12.
LINKS = (("l", Pool(((1, 6),))), ("k", Pool(((10, 12),))), ("m", Pool()))
ASKERS = (("d", "l"), ("c", "l"), ("e", "k"), ("f", "m"))
# The link l has two relays, with one of m between them; k has none.
RELAYS = (("r", "l"), ("s", "m"), ("q", "l"))
NAMES = ("c", "d", "e", "f", "one", "two")
NUMBERS = range(-1, 14)
REFUSALS = (NoEvent, NoName, NoPlace, NoClock, NoNumber, NoDeed)


def world(links=LINKS, askers=ASKERS, relays=RELAYS, **settings):
    return World(Settings(**settings), links=links, askers=askers, relays=relays)


def small(askers=("c", "d"), numbers=1, **settings):
    """A world of one link without relays."""
    return world((("l", Pool(((1, numbers),))),), tuple((name, "l") for name in askers), (), **settings)


def told_of(made, names=NAMES, numbers=NUMBERS):
    """All that a world tells, but how many events were tried."""
    return (
        made.now(), made.letters(), made.both(), made.ever_both(), made.holds(),
        [made.reading(name) for name in names], [made.state(name) for name in names],
        [made.holders(number) for number in numbers], [made.titled(number) for number in numbers],
    )


def place_of(made, kind, sender, receiver):
    """The place of the last letter under way of this kind."""
    fit = [
        place for place, letter in enumerate(made.letters())
        if (letter.kind, letter.sender, letter.receiver) == (kind, sender, receiver)
    ]
    return fit[-1]


def hand(made, kind, sender, receiver):
    made.do(("hand", place_of(made, kind, sender, receiver)))


def lend(made, name, keeper):
    """The asker is lent a number by the keeper, all within one moment; the other letters stay under way."""
    made.do(("find", name))
    hand(made, "find", name, keeper)
    hand(made, "offer", keeper, name)
    hand(made, "want", name, keeper)
    hand(made, "grant", keeper, name)


def renew(made, name, keeper):
    made.do(("renew", name))
    hand(made, "renew", name, keeper)
    hand(made, "grant", keeper, name)


def tell(made, keeper, other):
    """What the keeper told last is handed over, and what the other answers."""
    hand(made, "told", keeper, other)
    hand(made, "seen", other, keeper)


def come_back(made, keeper, other):
    """A stopped keeper is started, and handed the other's books."""
    made.do(("start", keeper))
    hand(made, "back", keeper, other)
    hand(made, "books", other, keeper)


def lose_all(made):
    while made.letters():
        made.do(("lose", 0))
