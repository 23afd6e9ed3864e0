"""Relays, through which letters go and by which their answers come back."""

from leasepair.errors import NoPath, TooFar

MOST = 4


class Relay:
    """A relay of a link; it passes on no letter that went through the most relays already."""

    def __init__(self, name, *, link, most=MOST):
        self.name = name
        self.link = link
        self.most = most

    def passed_on(self, letter):
        if self.name in letter.via:
            raise NoPath(self.name)
        if len(letter.via) >= self.most:
            raise TooFar(self.most)
        # The link tells where the letter came from: that is the first relay's.
        link = self.link if letter.link == "" else letter.link
        return letter.altered(link=link, via=letter.via + (self.name,))

    def brought_back(self, letter):
        if letter.via[-1:] != (self.name,):
            raise NoPath(self.name)
        return letter.altered(via=letter.via[:-1])


def passed_by(relays, letter):
    """The letter behind all relays, in their order."""
    passed = letter
    for relay in relays:
        passed = relay.passed_on(passed)
    return passed


def brought_by(relays, letter):
    """The letter brought back by all relays, from the last to the first."""
    brought = letter
    for relay in relays[::-1]:
        brought = relay.brought_back(brought)
    return brought
