"""The refusals, each of its own class, with the fields that say what was refused."""


class NoPool(ValueError):
    """No stretches of a pool; at is the first pair that is none, or None."""

    def __init__(self, at):
        ValueError.__init__(self, "these are no stretches of a pool")
        self.at = at


class NoPlace(IndexError):
    """No such place among as many as there are."""

    def __init__(self, place, many):
        IndexError.__init__(self, f"no place {place} among {many}")
        self.place = place
        self.many = many


class NoNumber(LookupError):
    """The number isn't there."""

    def __init__(self, number):
        LookupError.__init__(self, f"no number {number} here")
        self.number = number


class NoShare(ValueError):
    """No weights by which a pool is dealt."""


class NoText(ValueError):
    """A text that isn't written so."""


class NoLetter(ValueError):
    """No letter; field is the name of the first field that isn't as told."""

    def __init__(self, field):
        ValueError.__init__(self, f"no letter has such a {field}")
        self.field = field


class NoBytes(ValueError):
    """Bytes that are no letter's."""


class NoPath(LookupError):
    """No way through the relay of this name."""

    def __init__(self, name):
        LookupError.__init__(self, f"no way through the relay {name}")
        self.name = name


class TooFar(OverflowError):
    """A letter that went through the most relays already."""

    def __init__(self, most):
        OverflowError.__init__(self, f"through {most} relays already")
        self.most = most


class NoClock(ArithmeticError):
    """A lag beyond the slack of the clock."""

    def __init__(self, asked, slack):
        ArithmeticError.__init__(self, f"a lag of {asked} is beyond the slack of {slack}")
        self.asked = asked
        self.slack = slack


class NoSetting(ValueError):
    """No settings; name is that of the first one that isn't as told."""

    def __init__(self, name):
        ValueError.__init__(self, f"no settings have such a {name}")
        self.name = name


class NoDeed(RuntimeError):
    """A deed that can't be done now."""

    def __init__(self, word):
        RuntimeError.__init__(self, f"{word} can't be done now")
        self.word = word


class NoEvent(ValueError):
    """A thing that is no event."""


class NoName(KeyError):
    """Nobody has this name."""

    def __init__(self, name):
        KeyError.__init__(self, f"nobody is called {name}")
        self.name = name


class NoRun(RuntimeError):
    """A run that stopped at an event that was refused."""

    def __init__(self, at):
        RuntimeError.__init__(self, f"the event at place {at} was refused")
        self.at = at


class NoWorld(ValueError):
    """No world is made of this."""


class NoRow(ValueError):
    """A row that no desk answers."""


class TooMany(OverflowError):
    """As many worlds as there may be."""

    def __init__(self, most):
        OverflowError.__init__(self, f"there are {most} worlds already")
        self.most = most
