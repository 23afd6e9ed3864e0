"""What a world may be made of."""

from leasepair.checks import is_name
from leasepair.keepers import KEEPERS
from leasepair.pools import Pool
from leasepair.settings import Settings

MOST_LINKS = 3
MOST_NUMBERS = 60
MOST_ASKERS = 6
MOST_RELAYS = 6
MOST_ON_A_LINK = 4


def is_plan(settings, links, askers, relays):
    """Whether a world may be made of these."""
    if not isinstance(settings, Settings) or not are_links(links):
        return False
    homes = [link for link, pool in links]
    if not are_dwellers(askers, homes, 1, MOST_ASKERS) or not are_dwellers(relays, homes, 0, MOST_RELAYS):
        return False
    names = [name for name, link in askers]
    if any([name in names for name, link in relays]):
        return False
    return all([many_on(link, relays) <= MOST_ON_A_LINK for link in homes])


def are_links(thing):
    if not are_named(thing, 1, MOST_LINKS) or not all([isinstance(pool, Pool) for name, pool in thing]):
        return False
    together = Pool()
    for name, pool in thing:
        together = together.joined(pool)
    # A number in two pools counts twice here, but once in the pool of all.
    many = sum([len(pool) for name, pool in thing])
    return many == len(together) and many <= MOST_NUMBERS


def are_dwellers(thing, homes, least, most):
    """Whether these are pairs (name, link) of askers, or of relays, on some of these links."""
    if not are_named(thing, least, most):
        return False
    return all([name not in KEEPERS and link in homes for name, link in thing])


def are_named(thing, least, most):
    """Whether it is a tuple of so many pairs, the first of each a name, no name twice."""
    if not isinstance(thing, tuple) or not least <= len(thing) <= most:
        return False
    if not all([is_named_pair(pair) for pair in thing]):
        return False
    names = [name for name, other in thing]
    return len(set(names)) == len(names)


def is_named_pair(thing):
    return isinstance(thing, tuple) and len(thing) == 2 and is_name(thing[0])


def many_on(link, relays):
    return len([name for name, home in relays if home == link])
