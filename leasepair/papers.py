"""Papers, by which anybody can see that settings are safe or broken, and the looker, which lets them by."""

from leasepair.checks import is_whole
from leasepair.errors import NoRun, NoSetting, NoShare, NoText
from leasepair.events import MOST_MOMENTS
from leasepair.pools import Pool, pool_read
from leasepair.settings import NAMES, settings_of
from leasepair.worlds import World

MOST_EVENTS = 80
MOST_DEALT = 200
# Behind the first lending: a find and a want to one, and what two tells one of it.
LEFT_UNDER_WAY = 3
SAFE = "safe"
BROKEN = "broken"
DEALT = "dealt"


def small_world(settings):
    """The link l with the number 1 alone, the title of which is with two, and askers c and d."""
    return World(settings, links=(("l", Pool(((1, 1),))),), askers=(("c", "l"), ("d", "l")))


def paper(settings):
    if settings.is_safe():
        return SAFE, settings.spares()
    return BROKEN, tuple(broken_events(settings))


def looked(claim, paper):
    """Whether the paper shows what is claimed."""
    if not isinstance(claim, tuple) or claim == ():
        return False
    word = claim[0]
    if word == SAFE and len(claim) == 2:
        return shows_safe(claim[1], paper)
    if word == BROKEN and len(claim) == 2:
        return shows_broken(claim[1], paper)
    if word == DEALT and len(claim) == 4:
        return shows_dealt(claim[1], claim[2], claim[3], paper)
    return False


def shows_safe(row, spares):
    settings = claimed_settings(row)
    if settings is None or not settings.is_safe() or not isinstance(spares, tuple):
        return False
    # To Python truths are the same as numbers, but they are no spares.
    return all([is_whole(spare) for spare in spares]) and spares == settings.spares()


def shows_broken(row, events):
    settings = claimed_settings(row)
    if settings is None or not isinstance(events, tuple) or len(events) > MOST_EVENTS:
        return False
    world = small_world(settings)
    try:
        world.run(events)
    except NoRun:
        return False
    return world.ever_both()


def shows_dealt(text, one, other, texts):
    pool = claimed_pool(text)
    if pool is None or len(pool) > MOST_DEALT:
        return False
    try:
        parts = pool.dealt(one=one, other=other)
    except NoShare:
        return False
    return texts == tuple([str(part) for part in parts])


def claimed_pool(text):
    """The pool whose text this is, or None where it is none."""
    if not isinstance(text, str):
        return None
    try:
        return pool_read(text)
    except NoText:
        return None


def claimed_settings(row):
    """The settings whose row this is, or None where it is none."""
    if not isinstance(row, tuple) or len(row) != len(NAMES):
        return None
    try:
        return settings_of(row)
    except NoSetting:
        return None


def broken_events(settings):
    """A run by which two hold 1 at once, where grace or wait is too little: first c holds it, by two, then d does."""
    slack = settings.slack
    # The keepers' clocks are as far behind as may be, that of c as far ahead: so c reckons its end latest.
    events = [("lag", "one", -slack), ("lag", "two", -slack)] + waits(slack) + [("lag", "c", slack)]
    events += lent_by("two", "c", 0)
    if settings.grace < 4 * slack:
        keeper = "two"
        moments = settings.lead + settings.grace - 2 * slack
    else:
        keeper = "one"
        moments = settings.wait - 2 * slack
        events += [("stop", "two"), ("alone", "one")]
    # Then it is the other way about: the keeper lends it anew soonest, while c holds on.
    events += [("lag", "c", -slack), ("lag", keeper, slack)] + waits(moments)
    return events + lent_by(keeper, "d", LEFT_UNDER_WAY)


def lent_by(keeper, name, ahead):
    """Events by which 1 is lent to an asker, all within one moment; so many letters are under way ahead of them."""
    place = 0 if keeper == "one" else 1
    return [
        ("find", name),
        ("hand", ahead + place),
        # The find to the other keeper, and later on the want to it, stay under way ahead of the answers.
        ("hand", ahead + 1),
        ("hand", ahead + 1 + place),
        ("hand", ahead + 2),
    ]


def waits(moments):
    """Events by which so many moments pass, or none where there are none."""
    events = []
    left = moments
    while left > 0:
        events.append(("wait", min(left, MOST_MOMENTS)))
        left -= MOST_MOMENTS
    return events
