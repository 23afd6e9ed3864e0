"""Two keepers, askers, clocks and relays put together, to be driven by events in any order.

Letters are lost, late and doubled; a keeper is alone only while the other one is stopped. After each event
what is promised of all of them is looked at.
"""

from leasepair.askers import Asker
from leasepair.errors import NoDeed
from leasepair.keepers import Keeper
from leasepair.pools import Pool
from leasepair.relays import Relay, brought_by, passed_by
from leasepair.settings import Clock

from tests.helpers import DEFAULTS
from tests.keeping import other_of

KEEPERS = ("one", "two")
# What the letters of askers and keepers bear, by point 6.
BORNE = {
    "find": ("mark",), "want": ("mark", "number", "who"), "renew": ("mark", "number"),
    "free": ("number", "turn", "who"), "spoil": ("number", "turn", "who"),
    "offer": ("mark", "number", "link", "via"), "deny": ("mark", "number", "link", "via"),
    "grant": ("mark", "number", "span", "turn", "link", "via"),
    "told": ("number", "count", "who", "end"), "seen": ("number", "count", "end"), "give": ("number", "count"),
    "back": ("mark",), "books": ("mark", "rows"),
}

# How often each thing is tried; each bench has its own way to stray from these.
WEIGHTS = {
    "hand": 20, "lose": 2, "twice": 2, "wait": 10, "lag": 10, "asker": 4, "deal": 20, "stop": 2, "start": 3, "alone": 2,
    "give": 1, "again": 2,
}
# Mostly of what goes on between the keepers.
PAIR_WEIGHTS = {
    "hand": 40, "lose": 2, "twice": 4, "wait": 6, "lag": 1, "asker": 1, "deal": 2, "stop": 4, "start": 6, "alone": 2,
    "give": 12, "again": 4,
}
LATE = ((), ("told",), ("seen",), ("told", "seen", "free"), ("grant",), ("back", "books"), ("give",))


class Bench:

    def __init__(self, case, source, settings, askers, numbers, weights=WEIGHTS):
        self.case = case
        self.source = source
        self.settings = settings
        self.numbers = range(1, numbers + 1)
        links = (("l", Pool(((1, numbers),))),)
        self.keepers = {name: Keeper(name, links=links, settings=settings) for name in KEEPERS}
        self.askers = {name: Asker(name) for name in askers}
        self.clocks = {name: Clock(slack=settings.slack) for name in KEEPERS + tuple(askers)}
        self.relays = (Relay("r", link="l"), Relay("q", link="k"))
        self.running = {name: True for name in KEEPERS}
        self.letters = []
        self.now = source.randint(-100, 100)
        self.words = list(weights)
        self.weights = [weight * source.choice((1, 1, 2, 4)) for weight in weights.values()]
        self.late = source.choice(LATE)
        self.handing_in = source.choice(((8, 1, 1), (40, 1, 0), (8, 1, 0)))
        self.counts = {name: [0] * numbers for name in KEEPERS}
        self.holds = {name: (None, None) for name in askers}
        self.done = {}

    def reading(self, name):
        return self.clocks[name].reading(self.now)

    def send(self, letters):
        for letter in letters:
            for field, default in DEFAULTS.items():
                if field not in BORNE[letter.kind]:
                    self.case.assertEqual(getattr(letter, field), default, letter)
            if letter.receiver == "":
                self.letters += [letter.altered(receiver=name) for name in KEEPERS]
            else:
                self.letters.append(letter)

    def hand(self, letter):
        if letter.receiver in self.askers:
            asker = self.askers[letter.receiver]
            back = brought_by(self.relays, letter)
            self.case.assertEqual(back.via, ())
            self.send(asker.take(back, self.reading(letter.receiver)))
        elif self.running[letter.receiver]:
            if letter.sender in self.askers:
                letter = passed_by(self.relays, letter)
                self.case.assertEqual((letter.link, letter.via), ("l", ("r", "q")))
            self.hand_to_keeper(letter, letter.receiver)

    def hand_to_keeper(self, letter, name):
        keeper, reading = self.keepers[name], self.reading(name)
        before = {number: keeper.entry(number) for number in self.numbers}
        answers = keeper.take(letter, reading)
        for answer in answers:
            if answer.kind == "grant":
                self.look_at_grant(keeper, before[answer.number], answer, reading)
            self.count(f"{answer.kind} {keeper.state()}")
        self.send(answers)

    def look_at_grant(self, keeper, before, answer, reading):
        """A number is lent to another only behind since, and the end and the grace by which it was lent."""
        title, count, who, end, turn, far, seen, since = before
        self.case.assertIs(title, True)
        if who != answer.receiver:
            self.case.assertTrue(since is None or reading >= since)
            self.case.assertTrue(who == "" or end is None or reading >= end + self.settings.grace)
            if who != "" and end is None:
                # It was taken over: the wait has gone since then.
                self.case.assertIsNotNone(since)
        elif end is not None:
            self.case.assertGreaterEqual(keeper.entry(answer.number)[3], end)

    def count(self, word):
        self.done[word] = self.done.get(word, 0) + 1

    def event(self):
        """Does any one thing; what is refused is looked at elsewhere."""
        word = self.source.choices(self.words, self.weights)[0]
        try:
            getattr(self, f"do_{word}")()
        except NoDeed as error:
            self.count(f"no {error.word}")
        self.look()

    def do_hand(self):
        if not self.letters:
            return
        # Mostly the first ones, so that much comes to an end, but each bench has kinds that are late.
        most = min(self.source.choice((1, 2, 4, len(self.letters))), len(self.letters))
        place = self.source.randrange(most)
        if self.letters[place].kind in self.late and self.source.random() < 0.95:
            self.letters.append(self.letters.pop(place))
        else:
            self.hand(self.letters.pop(place))

    def do_lose(self):
        if self.letters:
            self.letters.pop(self.source.randrange(len(self.letters)))

    def do_twice(self):
        if self.letters and len(self.letters) < 40:
            self.letters.append(self.source.choice(self.letters))

    def do_wait(self):
        self.now += self.source.choice((1, 1, 1, 2, 3, 5, 8, 13, self.settings.slack))

    def do_lag(self):
        name = self.source.choice(list(self.clocks))
        slack = self.settings.slack
        self.clocks[name].put(self.now, lag=self.source.choice((-slack, slack, self.source.randint(-slack, slack))))

    def do_asker(self):
        name = self.source.choice(list(self.askers))
        asker, reading = self.askers[name], self.reading(name)
        if asker.state(reading) != "holding":
            # One that wants a number mostly waits for it.
            if asker.state(reading) != "wanting" or self.source.random() < 0.1:
                self.send(asker.seek(reading))
            return
        word = self.source.choices(("renew", "free", "spoil"), self.handing_in)[0]
        self.count(f"due {asker.due(reading)}")
        self.send(getattr(asker, word)(reading))

    def do_deal(self):
        """A deed of an asker, and what comes of it is handed over at once."""
        before = list(self.letters)
        self.do_asker()
        for step in range(8):
            fresh = [letter for letter in self.letters[len(before):] if letter.kind not in ("told", "seen")]
            if not fresh:
                return
            if self.source.random() < 0.1:
                self.do_lag()
            self.letters.remove(fresh[0])
            self.hand(fresh[0])
            self.look()

    def do_stop(self):
        self.running[self.source.choice(KEEPERS)] = False
        if self.source.random() < 0.5:
            self.do_alone()

    def do_start(self):
        name = self.source.choice(KEEPERS)
        if not self.running[name]:
            self.running[name] = True
            self.send(self.keepers[name].start())

    def do_alone(self):
        name = self.source.choice(KEEPERS)
        if self.running[name] and not self.running[other_of(name)]:
            self.send(self.keepers[name].alone(self.reading(name)))
            self.count("alone")

    def do_give(self):
        name = self.source.choice(KEEPERS)
        if self.running[name]:
            self.send(self.keepers[name].give(self.source.choice(self.numbers), self.reading(name)))
            self.count("give")

    def do_again(self):
        name = self.source.choice(KEEPERS)
        if self.running[name]:
            self.send(self.keepers[name].again())

    def look(self):
        self.look_at_clocks()
        self.look_at_titles()
        self.look_at_counts()
        self.look_at_leases()

    def look_at_clocks(self):
        for name in self.clocks:
            self.case.assertLessEqual(abs(self.reading(name) - self.now), self.settings.slack)

    def look_at_titles(self):
        """Of two keepers that serve, one at most has the title of a number."""
        running = [self.keepers[name] for name in KEEPERS if self.running[name]]
        serving = [keeper for keeper in running if keeper.state() != "back"]
        for number in self.numbers:
            self.case.assertLessEqual(sum(keeper.entry(number)[0] for keeper in serving), 1)

    def look_at_counts(self):
        for name, keeper in self.keepers.items():
            counts = [keeper.entry(number)[1] for number in self.numbers]
            for before, after in zip(self.counts[name], counts):
                self.case.assertLessEqual(before, after)
            self.counts[name] = counts

    def look_at_leases(self):
        """While a number is held, its end never comes sooner; no two hold one at once."""
        held = []
        for name, asker in self.askers.items():
            reading = self.reading(name)
            number, end = asker.held(reading), asker.held_to(reading)
            if number is not None and number == self.holds[name][0]:
                self.case.assertGreaterEqual(end, self.holds[name][1])
            self.holds[name] = (number, end)
            if number is not None:
                held.append(number)
        self.look_at_held(held)

    def look_at_held(self, held):
        self.case.assertEqual(len(held), len(set(held)))
