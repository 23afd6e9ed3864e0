"""Events: what a world may be told to do, each by its word and its parts."""

from leasepair.checks import is_name, is_short_whole, is_whole_within

ASKER_WORDS = ("find", "renew", "free", "spoil")
LETTER_WORDS = ("hand", "lose", "twice")
RELAY_WORDS = ("shut", "open")
MOST_MOMENTS = 999999
# What stands behind each word.
PARTS = {
    "wait": ("moments",),
    "lag": ("name", "whole"),
    "find": ("name",),
    "renew": ("name",),
    "free": ("name",),
    "spoil": ("name",),
    "hand": ("whole",),
    "lose": ("whole",),
    "twice": ("whole",),
    "shut": ("name",),
    "open": ("name",),
    "stop": ("name",),
    "start": ("name",),
    "alone": ("name",),
    "give": ("name", "whole"),
    "again": ("name",),
}


def is_event(thing):
    """Whether it is an event of some world, be it one that can't be done in a given one."""
    if not isinstance(thing, tuple) or thing == ():
        return False
    word = thing[0]
    if not isinstance(word, str) or word not in PARTS:
        return False
    kinds = PARTS[word]
    if len(thing) != 1 + len(kinds):
        return False
    return all([is_part(kind, part) for kind, part in zip(kinds, thing[1:])])


def is_part(kind, thing):
    if kind == "name":
        return is_name(thing)
    if kind == "moments":
        return is_whole_within(thing, 1, MOST_MOMENTS)
    return is_short_whole(thing)
