"""Settings of a world, and clocks that differ from its moments within a slack."""

from leasepair.checks import is_whole_within
from leasepair.errors import NoClock, NoSetting

LEASE = 60
LEAD = 20
SLACK = 2
REST = 30
NAMES = ("lease", "lead", "slack", "grace", "wait", "rest")
MOST_TIME = 999999
MOST_SLACK = 9999


class Settings:
    """For how long numbers are lent, and what keepers wait before they lend them to others."""

    def __init__(self, *, lease=LEASE, lead=LEAD, slack=SLACK, grace=4 * SLACK, wait=LEAD + 4 * SLACK, rest=REST):
        # A right lead is told by the lease, so that must be right first.
        refuse_other("lease", lease, 1, MOST_TIME)
        refuse_other("lead", lead, 1, lease)
        refuse_other("slack", slack, 0, MOST_SLACK)
        refuse_other("grace", grace, 0, MOST_TIME)
        refuse_other("wait", wait, 0, MOST_TIME)
        refuse_other("rest", rest, 0, MOST_TIME)
        self.lease = lease
        self.lead = lead
        self.slack = slack
        self.grace = grace
        self.wait = wait
        self.rest = rest

    def row(self):
        return self.lease, self.lead, self.slack, self.grace, self.wait, self.rest

    def spares(self):
        """What grace and wait have above what is safe."""
        return self.grace - 4 * self.slack, self.wait - self.lead - 4 * self.slack

    def is_safe(self):
        return all([spare >= 0 for spare in self.spares()])

    def __eq__(self, other):
        return isinstance(other, Settings) and self.row() == other.row()

    def __str__(self):
        return " ".join([f"{name}={value}" for name, value in zip(NAMES, self.row())])


class Clock:
    """A clock whose reading never falls and is never further from the moment than the slack."""

    def __init__(self, *, slack=SLACK):
        self.slack = slack
        self.shift = 0
        self.floor = None

    def lag(self):
        return self.shift

    def reading(self, now):
        shifted = now + self.shift
        return shifted if self.floor is None else max(shifted, self.floor)

    def put(self, now, *, lag):
        if abs(lag) > self.slack:
            raise NoClock(lag, self.slack)
        self.floor = self.reading(now)
        self.shift = lag


def settings_of(row):
    """The settings whose row this is."""
    lease, lead, slack, grace, wait, rest = row
    return Settings(lease=lease, lead=lead, slack=slack, grace=grace, wait=wait, rest=rest)


def refuse_other(name, thing, low, high):
    """Refuses what is no whole number from low to high."""
    if not is_whole_within(thing, low, high):
        raise NoSetting(name)
