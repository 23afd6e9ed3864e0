"""A second world, put together from askers, keepers, clocks and relays straight by points 21 to 24.

It does only events that can be done: worlds are held against it.
"""

from leasepair.askers import Asker
from leasepair.keepers import Keeper
from leasepair.relays import Relay, brought_by, passed_by
from leasepair.settings import Clock

from tests.keeping import other_of

DEEDS = {"find": Asker.seek, "renew": Asker.renew, "free": Asker.free, "spoil": Asker.spoil}


class Mirror:

    def __init__(self, settings, links, askers, relays):
        self.settings = settings
        self.askers = {name: (Asker(name), link) for name, link in askers}
        self.keepers = {name: Keeper(name, links=links, settings=settings) for name in ("one", "two")}
        self.clocks = {name: Clock(slack=settings.slack) for name in [*self.askers, *self.keepers]}
        self.relays = [Relay(name, link=link) for name, link in relays]
        self.down = set()
        self.now = 0
        self.letters = []
        self.ever = False

    def reading(self, name):
        return self.clocks[name].reading(self.now)

    def do(self, event):
        word, part, *more = event
        if word == "wait":
            self.now += part
        elif word == "lag":
            self.clocks[part].put(self.now, lag=more[0])
        elif word in DEEDS:
            self.send(DEEDS[word](self.askers[part][0], self.reading(part)))
        elif word == "hand":
            self.send(self.hand(self.letters.pop(part)))
        elif word == "lose":
            del self.letters[part]
        elif word == "twice":
            self.letters.append(self.letters[part])
        elif word in ("shut", "stop"):
            self.down.add(part)
        elif word in ("open", "start"):
            self.down.remove(part)
        keeper = self.keepers.get(part)
        if word == "start":
            self.send(keeper.start())
        elif word == "again":
            self.send(keeper.again())
        elif word == "alone":
            assert other_of(part) in self.down
            self.send(keeper.alone(self.reading(part)))
        elif word == "give":
            self.send(keeper.give(more[0], self.reading(part)))
        held = [asker.held(self.reading(name)) for name, (asker, link) in self.askers.items()]
        held = [number for number in held if number is not None]
        self.ever = self.ever or len(held) > len(set(held))

    def send(self, letters):
        for letter in letters:
            names = [letter.receiver] if letter.receiver else ["one", "two"]
            self.letters += [letter.altered(receiver=name) for name in names]

    def hand(self, letter):
        """What comes of a letter that is handed over."""
        ends = {letter.sender, letter.receiver}
        links = [link for name, (asker, link) in self.askers.items() if name in ends]
        way = tuple(relay for relay in self.relays if relay.link in links)
        if letter.receiver in self.down or self.down & {relay.name for relay in way}:
            return []
        reading = self.reading(letter.receiver)
        if letter.receiver in self.askers:
            return self.askers[letter.receiver][0].take(brought_by(way, letter), reading)
        if links and not way:
            letter = letter.altered(link=links[0])
        return self.keepers[letter.receiver].take(passed_by(way, letter), reading)

    def holds(self):
        rows = []
        for name, (asker, link) in self.askers.items():
            reading = self.reading(name)
            if asker.state(reading) == "holding":
                number = asker.held(reading)
                by = [self.earliest(keeper, number) for keeper in ("one", "two")]
                rows.append((number, name, asker.held_to(reading) + self.settings.slack, *by))
        return sorted(rows, key=lambda row: row[:2])

    def earliest(self, name, number):
        keeper = self.keepers[name]
        if keeper.state() == "back" or (name in self.down and keeper.state() == "paired"):
            return None
        title, count, who, end, turn, far, seen, since = keeper.entry(number)
        if title:
            ends = [since] if since is not None else []
            ends += [end + self.settings.grace] if end is not None else []
        else:
            ends = [(self.reading(name) if far is None else max(far, self.reading(name))) + self.settings.wait]
        return max([self.now] + [moment - self.settings.slack for moment in ends])

    def state(self, name):
        if name in self.askers:
            return self.askers[name][0].state(self.reading(name))
        return "stopped" if name in self.down else self.keepers[name].state()

    def told_of(self, names, numbers):
        """As tests.worldly.told_of tells it of a world."""
        holds = self.holds()
        holders = {number: [row[1] for row in holds if row[0] == number] for number in numbers}
        serving = [name for name in ("one", "two") if self.state(name) not in ("stopped", "back")]
        known = [number for number in numbers if any(number == n for n in self.keepers["one"].entries)]
        return (
            self.now, self.letters, [number for number in numbers if len(holders[number]) > 1], self.ever, holds,
            [self.reading(name) for name in names], [self.state(name) for name in names],
            [holders[number] for number in numbers],
            [
                [name for name in serving if self.keepers[name].entry(number)[0]] if number in known else []
                for number in numbers
            ],
        )
