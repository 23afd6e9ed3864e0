"""Events drawn for a world, such that much comes of them: deals that come to an end, keepers that take over."""

from leasepair.pools import Pool
from leasepair.settings import Settings
from leasepair.worlds import World

from tests.worldly import REFUSALS

KEEPERS = ("one", "two")
WEIGHTS = {
    "hand": 20, "lose": 1, "twice": 2, "wait": 6, "lag": 10, "asker": 6, "deal": 12, "stop": 2, "start": 3, "alone": 3,
    "give": 1, "again": 2, "relay": 0.5,
}
# Each run has kinds of letters that come late.
LATE = (
    (), ("told",), ("seen",), ("told", "seen"), ("grant",), ("back", "books"), ("give",), ("renew",), ("want", "grant"),
    ("free",), ("books",),
)


def safe_settings(source):
    """Settings that are safe, mostly just so."""
    slack, lead = source.choice((0, 1, 1, 2, 3, 5)), source.randint(1, 12)
    return Settings(
        lease=lead + source.choice((0, 1, 5, 20, 40)), lead=lead, slack=slack, grace=4 * slack + source.choice((0, 0, 0, 1)),
        wait=lead + 4 * slack + source.choice((0, 0, 0, 1)), rest=source.choice((0, 3, 30)),
    )


class Drawn:
    """A world and a source of events for it; what is done is looked at by whoever draws them."""

    def __init__(self, source, settings, look):
        self.source = source
        self.slack, self.lead, self.wait = settings.slack, settings.lead, settings.wait
        self.look = look
        self.numbers = source.choice((1, 1, 1, 2, 3))
        self.askers = ("c", "d", "e")[:source.choice((2, 2, 3))]
        self.relays = ("r", "q")[:source.randint(0, 2)]
        self.parts = (
            (("l", Pool(((1, self.numbers),))),), tuple((name, "l") for name in self.askers),
            tuple((name, "l") for name in self.relays),
        )
        self.world = self.new_world(settings)
        self.words = list(WEIGHTS)
        self.weights = [weight * source.choice((1, 1, 2, 4)) for weight in WEIGHTS.values()]
        self.late = source.choice(LATE)
        self.events = []
        self.done = []

    def new_world(self, settings):
        links, askers, relays = self.parts
        return World(settings, links=links, askers=askers, relays=relays)

    def draw(self, many):
        """Draws so many things to do, each of one or more events."""
        for step in range(many):
            word = self.source.choices(self.words, self.weights)[0]
            getattr(self, f"draw_{word}")()

    def do(self, event):
        """Does an event; whether it was done."""
        self.events.append(event)
        try:
            self.world.do(event)
        except REFUSALS:
            return False
        finally:
            self.look(self)
        self.done.append(event)
        return True

    def draw_hand(self):
        letters = self.world.letters()
        if not letters:
            return
        place = self.source.randrange(min(self.source.choice((1, 2, 4, len(letters))), len(letters)))
        if self.source.random() < 0.4:
            place = len(letters) - 1 - place
        if letters[place].kind not in self.late or self.source.random() < 0.1:
            self.do(("hand", place))

    def draw_lose(self):
        self.do(("lose", self.source.randrange(len(self.world.letters()) + 1)))

    def draw_twice(self):
        many = len(self.world.letters())
        if many < 40:
            self.do(("twice", self.source.randrange(many + 1)))

    def draw_wait(self):
        """Mostly to just where a hold, or a keeper's waiting, ends."""
        now = self.world.now()
        moments = [1, 1, 2, 3, max(1, self.slack), self.lead, max(1, self.wait)]
        for number, name, latest, by_one, by_two in self.world.holds():
            for moment in (latest, by_one, by_two, latest - 2 * self.slack, latest - 1):
                if moment is not None and moment > now:
                    moments += [moment - now] * 2
        self.do(("wait", self.source.choice(moments)))

    def draw_lag(self):
        slack = self.slack
        lags = (-slack, slack, -slack, slack, self.source.randint(-slack, slack))
        self.do(("lag", self.source.choice(self.askers + KEEPERS), self.source.choice(lags)))

    def asker_event(self):
        name = self.source.choice(self.askers)
        if self.world.state(name) != "holding":
            return "find", name
        return self.source.choices(("renew", "free", "spoil"), (12, 1, 0.5))[0], name

    def draw_asker(self):
        self.do(self.asker_event())

    def draw_deal(self):
        """A deed of an asker, and most of what comes of it is handed over at once."""
        word, name = self.asker_event()
        self.do((word, name))
        for step in range(10):
            letters = self.world.letters()
            places = [place for place, letter in enumerate(letters) if name in (letter.sender, letter.receiver)]
            if not places:
                return
            if self.source.random() < 0.1:
                self.draw_lag()
            self.do(("hand", self.source.choice(places[-3:])))

    def draw_stop(self):
        self.do(("stop", self.source.choice(KEEPERS)))

    def draw_start(self):
        self.do(("start", self.source.choice(KEEPERS)))

    def draw_again(self):
        self.do(("again", self.source.choice(KEEPERS)))

    def draw_alone(self):
        keeper, other = self.source.sample(KEEPERS, 2)
        if self.source.random() < 0.3:
            self.do(("stop", other))
        self.do(("alone", keeper))

    def draw_give(self):
        self.do(("give", self.source.choice(KEEPERS), self.source.randint(1, self.numbers)))

    def draw_relay(self):
        self.do((self.source.choice(("shut", "open", "open")), self.source.choice(self.relays or ("r",))))
