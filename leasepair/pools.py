"""Pools of numbers, kept as the fewest stretches, rising."""

from leasepair.checks import TOP_NUMBER, are_figures, is_number, is_whole_within
from leasepair.errors import NoNumber, NoPlace, NoPool, NoShare, NoText

MOST_STRETCHES = 20
MOST_WEIGHT = 1000
MOST_FIGURES = 6


class Pool:
    """All numbers from a low to its high, of some stretches (low, high)."""

    def __init__(self, stretches=()):
        refuse_wrong_stretches(stretches)
        self.pairs = fewest(stretches)

    def stretches(self):
        return self.pairs

    def has(self, number):
        return any([low <= number <= high for low, high in self.pairs])

    def number_at(self, place):
        if place < 0:
            raise NoPlace(place, len(self))
        ahead = 0
        for low, high in self.pairs:
            number = low + place - ahead
            if number <= high:
                return number
            ahead += high - low + 1
        raise NoPlace(place, len(self))

    def place_of(self, number):
        ahead = 0
        for low, high in self.pairs:
            if low <= number <= high:
                return ahead + number - low
            ahead += high - low + 1
        raise NoNumber(number)

    def first_from(self, low=0, *, but=()):
        """The least number from low on that isn't in but, or None."""
        for least, greatest in self.pairs:
            number = max(low, least)
            while number <= greatest and number in but:
                number += 1
            if number <= greatest:
                return number
        return None

    def joined(self, other):
        return pool_of(self.pairs + other.pairs)

    def met(self, other):
        return pool_of(shared(self.pairs, other.pairs))

    def without(self, other):
        return pool_of(shared(self.pairs, gaps(other.pairs)))

    def dealt(self, *, one=1, other=1):
        """The two parts of the pool by the weights of the first and the second."""
        if not are_weights(one, other):
            raise NoShare("weights are from 0 to 1000, and not both 0")
        numbers = [number for low, high in self.pairs for number in range(low, high + 1)]
        both = one + other
        first = pool_of([
            (number, number)
            for place, number in enumerate(numbers)
            if (place + 1) * one // both > place * one // both
        ])
        return first, self.without(first)

    def __eq__(self, other):
        return isinstance(other, Pool) and self.pairs == other.pairs

    def __len__(self):
        return len(range(sum([high - low + 1 for low, high in self.pairs])))

    def __str__(self):
        if self.pairs == ():
            return "none"
        return ",".join([stretch_text(low, high) for low, high in self.pairs])

    def __repr__(self):
        return f"Pool({self.pairs!r})"


def pool_read(text):
    """The pool whose text this is."""
    if text == "none":
        return Pool()
    pool = pool_of([stretch_read(part) for part in text.split(",")])
    # Each pool has one text only: any other way of writing it is no text of it.
    if str(pool) != text:
        raise NoText("a pool is not written so")
    return pool


def pool_of(pairs):
    """A pool of however many stretches, more than Pool itself takes."""
    pool = Pool()
    pool.pairs = fewest(pairs)
    return pool


def refuse_wrong_stretches(thing):
    if not isinstance(thing, tuple) or len(thing) > MOST_STRETCHES:
        raise NoPool(None)
    for at, pair in enumerate(thing):
        if not is_stretch(pair):
            raise NoPool(at)


def is_stretch(thing):
    if not isinstance(thing, tuple) or len(thing) != 2:
        return False
    low, high = thing
    return is_number(low) and is_number(high) and low <= high


def are_weights(one, other):
    if not is_whole_within(one, 0, MOST_WEIGHT) or not is_whole_within(other, 0, MOST_WEIGHT):
        return False
    return one + other > 0


def fewest(pairs):
    """The fewest stretches, rising, that have the numbers of these."""
    found = []
    for low, high in sorted(pairs):
        if found and low <= found[-1][1] + 1:
            found[-1] = (found[-1][0], max(found[-1][1], high))
        else:
            found.append((low, high))
    return tuple(found)


def shared(ones, others):
    """The stretches of what is in both; of each the stretches rise and don't meet."""
    found = []
    mine = 0
    theirs = 0
    while mine < len(ones) and theirs < len(others):
        low = max(ones[mine][0], others[theirs][0])
        high = min(ones[mine][1], others[theirs][1])
        if low <= high:
            found.append((low, high))
        # What ends first can't meet anything further.
        if ones[mine][1] < others[theirs][1]:
            mine += 1
        else:
            theirs += 1
    return found


def gaps(pairs):
    """The stretches of all numbers that are in none of these, which are the fewest and rise."""
    found = []
    start = 0
    for low, high in pairs:
        if start < low:
            found.append((start, low - 1))
        start = high + 1
    if start <= TOP_NUMBER:
        found.append((start, TOP_NUMBER))
    return found


def stretch_text(low, high):
    if low == high:
        return str(low)
    return f"{low}-{high}"


def stretch_read(text):
    """A stretch (low, high) of its text; noughts ahead are left to pool_read."""
    low, dash, high = text.partition("-")
    if dash == "":
        high = low
    if not are_figures(low, MOST_FIGURES) or not are_figures(high, MOST_FIGURES) or int(low) > int(high):
        raise NoText("a stretch is not written so")
    return int(low), int(high)
