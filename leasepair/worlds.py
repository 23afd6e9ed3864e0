"""Worlds, which run by told events."""

from leasepair.askers import Asker
from leasepair.entries import greater
from leasepair.errors import NoClock, NoDeed, NoEvent, NoName, NoNumber, NoPlace, NoRun, NoWorld
from leasepair.events import ASKER_WORDS, LETTER_WORDS, RELAY_WORDS, is_event
from leasepair.keepers import ALONE, BACK, KEEPERS, Keeper
from leasepair.plans import is_plan
from leasepair.relays import Relay, brought_by, passed_by
from leasepair.settings import Clock

STOPPED = "stopped"


class World:
    """Askers, relays and two keepers, their clocks, and the letters under way among them."""

    def __init__(self, settings, *, links, askers, relays=()):
        if not is_plan(settings, links, askers, relays):
            raise NoWorld("no world is made of this")
        # Each by itself: whatever is done to the settings behind the call changes nothing here.
        self.slack = settings.slack
        self.grace = settings.grace
        self.wait = settings.wait
        self.moment = 0
        self.attempts = 0
        self.ever_met = False
        self.under_way = []
        self.askers = {name: Asker(name) for name, link in askers}
        self.homes = {name: link for name, link in askers}
        self.ways = {link: way_of(link, relays) for link, pool in links}
        self.keepers = {name: Keeper(name, links=links, settings=settings) for name in KEEPERS}
        self.clocks = {name: Clock(slack=self.slack) for name in list(KEEPERS) + list(self.askers)}
        self.stopped = {name: False for name in KEEPERS}
        self.shut = {name: False for name, link in relays}

    def do(self, event):
        self.attempts += 1
        if not is_event(event):
            raise NoEvent("this is no event")
        word, part = event[0], event[1]
        if word == "wait":
            self.moment += part
        elif word == "lag":
            named(self.clocks, part).put(self.moment, lag=event[2])
        elif word in ASKER_WORDS:
            self.send(self.asker_deed(word, part))
        elif word in LETTER_WORDS:
            self.send(self.letter_fate(word, part))
        elif word in RELAY_WORDS:
            self.turn_relay(word, part)
        else:
            self.send(self.keeper_deed(event))
        self.ever_met = self.ever_met or self.both() != []

    def run(self, events):
        for at, event in enumerate(events):
            try:
                self.do(event)
            except (NoEvent, NoName, NoPlace, NoClock, NoNumber, NoDeed):
                raise NoRun(at) from None

    def now(self):
        return self.moment

    def letters(self):
        return [letter.altered() for letter in self.under_way]

    def holders(self, number):
        return [name for held, name in self.held_rows() if held == number]

    def both(self):
        rows = self.held_rows()
        return sorted({row[0] for row, later in zip(rows, rows[1:]) if row[0] == later[0]})

    def ever_both(self):
        return self.ever_met

    def reading(self, name):
        return named(self.clocks, name).reading(self.moment)

    def titled(self, number):
        return [name for name in KEEPERS if self.serves(name) and has_title(self.keepers[name], number)]

    def tried(self):
        return self.attempts

    def holds(self):
        return [(number, name, self.latest(name)) + self.earliest_of(number) for number, name in self.held_rows()]

    def state(self, name):
        reading = self.reading(name)
        if name in self.askers:
            return self.askers[name].state(reading)
        return STOPPED if self.stopped[name] else self.keepers[name].state()

    def send(self, letters):
        """Puts the letters under way, behind all others; what goes to both keepers is two of them."""
        for letter in letters:
            receivers = KEEPERS if letter.receiver == "" else (letter.receiver,)
            self.under_way.extend([letter.altered(receiver=name) for name in receivers])

    def asker_deed(self, word, name):
        asker = named(self.askers, name)
        reading = self.reading(name)
        if word == "renew":
            return asker.renew(reading)
        if word == "free":
            return asker.free(reading)
        if word == "spoil":
            return asker.spoil(reading)
        try:
            return asker.seek(reading)
        except NoDeed:
            # The asker calls this deed otherwise than the event does.
            raise NoDeed(word) from None

    def letter_fate(self, word, place):
        many = len(self.under_way)
        if not 0 <= place < many:
            raise NoPlace(place, many)
        if word == "twice":
            return [self.under_way[place]]
        letter = self.under_way.pop(place)
        return self.hand_over(letter) if word == "hand" else []

    def hand_over(self, letter):
        """What its receiver sends then; a letter that is lost on the way brings nothing."""
        if letter.receiver in self.askers:
            return self.hand_to_asker(letter)
        if self.stopped[letter.receiver]:
            return []
        if letter.sender in self.askers:
            return self.hand_from_asker(letter)
        return self.hand_to_keeper(letter)

    def hand_to_asker(self, letter):
        way = self.ways[self.homes[letter.receiver]]
        if self.is_barred(way):
            return []
        return self.askers[letter.receiver].take(brought_by(way, letter), self.reading(letter.receiver))

    def hand_from_asker(self, letter):
        home = self.homes[letter.sender]
        way = self.ways[home]
        if self.is_barred(way):
            return []
        # The relays of a link would tell no other link, and where there are none nobody else tells it.
        return self.hand_to_keeper(passed_by(way, letter.altered(link=home)))

    def hand_to_keeper(self, letter):
        return self.keepers[letter.receiver].take(letter, self.reading(letter.receiver))

    def is_barred(self, way):
        return any([self.shut[relay.name] for relay in way])

    def turn_relay(self, word, name):
        is_shut = named(self.shut, name)
        if is_shut == (word == "shut"):
            raise NoDeed(word)
        self.shut[name] = not is_shut

    def keeper_deed(self, event):
        word, name = event[0], event[1]
        keeper = named(self.keepers, name)
        if word == "give":
            # A number that no link has is refused ahead of what can't be done now.
            keeper.entry(event[2])
        if self.stopped[name] != (word == "start"):
            raise NoDeed(word)
        if word == "start":
            self.stopped[name] = False
            return keeper.start()
        if word == "stop":
            self.stopped[name] = True
            return []
        if word == "again":
            return keeper.again()
        if word == "give":
            return keeper.give(event[2], self.reading(name))
        if not self.stopped[keeper.other]:
            raise NoDeed(word)
        return keeper.alone(self.reading(name))

    def held_rows(self):
        """Each number that is held now, with its holder, rising."""
        rows = [(asker.held(self.reading(name)), name) for name, asker in self.askers.items()]
        return sorted([row for row in rows if row[0] is not None])

    def serves(self, name):
        return not self.stopped[name] and self.keepers[name].state() != BACK

    def latest(self, name):
        """The latest moment ahead of which a holder may go on without another letter."""
        return self.askers[name].held_to(self.reading(name)) + self.slack

    def earliest_of(self, number):
        """By each keeper, one ahead of two, the earliest moment at which it might lend the number to another."""
        return tuple([self.earliest(name, number) for name in KEEPERS])

    def earliest(self, name, number):
        keeper = self.keepers[name]
        # One that is alone lends on as soon as it is started; any other one must hear from the other keeper first.
        if not self.serves(name) and keeper.state() != ALONE:
            return None
        title, count, who, end, turn, far, seen, since = keeper.entry(number)
        if not title:
            free_at = greater(far, self.reading(name)) + self.wait
        elif end is None:
            free_at = since
        else:
            free_at = greater(since, end + self.grace)
        return self.moment if free_at is None else max(self.moment, free_at - self.slack)


def named(table, name):
    """What the table has by this name."""
    if name not in table:
        raise NoName(name)
    return table[name]


def way_of(link, relays):
    """The relays of the link, in their order."""
    return tuple([Relay(name, link=home) for name, home in relays if home == link])


def has_title(keeper, number):
    """Whether the keeper has the title of the number, which perhaps no link has."""
    try:
        return keeper.entry(number)[0]
    except NoNumber:
        return False
