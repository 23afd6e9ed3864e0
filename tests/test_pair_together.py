"""Point 3, as far as keepers, askers, clocks and relays go: what holds of them together."""

import random
import unittest
from collections import Counter

from leasepair.askers import Asker
from leasepair.keepers import Keeper
from leasepair.letters import Letter
from leasepair.pools import Pool
from leasepair.settings import Clock, Settings

from tests.bench import PAIR_WEIGHTS, WEIGHTS, Bench

SAFE = (
    Settings(),
    Settings(lease=12, lead=5, slack=1, grace=4, wait=9, rest=5),
    Settings(lease=40, lead=10, slack=5, grace=20, wait=30),
    Settings(lease=20, lead=20, slack=0, grace=0, wait=20, rest=0),
    Settings(lease=60, lead=3, slack=3, grace=12, wait=15, rest=0),
)


class AnyEvents(unittest.TestCase):

    def run_benches(self, many, steps, askers, weights):
        """How often each thing was done on so many benches, each of which looks at what is promised."""
        done = Counter()
        for seed in range(many):
            bench = Bench(
                self, random.Random(seed), SAFE[seed % len(SAFE)], askers, 1 + seed // len(SAFE) % 3, weights
            )
            with self.subTest(seed=seed):
                for step in range(steps):
                    bench.event()
            done.update(bench.done)
        return done

    def test_askers_and_keepers(self):
        done = self.run_benches(90, 250, ("c", "d"), WEIGHTS)
        for word in (
            "grant paired", "grant alone", "told paired", "seen paired", "offer alone", "deny paired", "deny alone",
            "books paired", "books back", "alone", "give", "due keep", "due renew", "due all", "no give", "no alone",
        ):
            self.assertGreater(done[word], 0, word)

    def test_the_pair(self):
        done = self.run_benches(90, 250, ("c", "d", "e"), PAIR_WEIGHTS)
        for word in ("give", "alone", "books paired", "books back", "seen paired", "grant alone"):
            self.assertGreater(done[word], 50, word)


class Stage:
    """The number 1 alone, lent at moment 0 to c by two, whose clock is as far behind as may be, c's as far ahead."""

    def __init__(self, settings):
        self.slack = settings.slack
        links = (("l", Pool(((1, 1),))),)
        self.one, self.two = [Keeper(name, links=links, settings=settings) for name in ("one", "two")]
        self.asker = Asker("c")
        self.clocks = {name: Clock(slack=self.slack) for name in ("c", "one", "two")}
        self.clocks["one"].put(-2 * self.slack, lag=-self.slack)
        self.clocks["two"].put(-2 * self.slack, lag=-self.slack)
        self.clocks["c"].put(0, lag=self.slack)
        self.ask(self.asker.seek)

    def reading(self, name, now):
        return self.clocks[name].reading(now)

    def ask(self, deed):
        """A deed of the asker at moment 0, and all that comes of it; what two tells one is kept."""
        letters = deed(self.reading("c", 0))
        while letters:
            answer, *self.told = self.two.take(letters[0].altered(link="l"), self.reading("two", 0))
            letters = self.asker.take(answer, self.reading("c", 0))

    def turn_clocks(self, keeper):
        """From now on c's clock is as far behind as may be, the keeper's as far ahead."""
        self.clocks["c"].put(0, lag=-self.slack)
        self.clocks[keeper].put(0, lag=self.slack)


class AtTheBorders(unittest.TestCase):
    """Where clocks are at their worst, the last safe grace and wait are just enough, and one less isn't."""

    def stages(self, spare):
        for slack, lead, lease in ((0, 1, 1), (0, 20, 60), (1, 5, 12), (2, 20, 60), (5, 10, 40), (100, 7, 3000)):
            grace, wait = 4 * slack + spare, lead + 4 * slack + spare
            if grace >= 0:
                yield Settings(lease=lease, lead=lead, slack=slack, grace=grace, wait=wait)

    def lent_first_at(self, keeper, name, stage, start):
        """The first moment at which the keeper lends the number to another asker."""
        now = start
        while True:
            reading = stage.reading(name, now)
            letter = Letter("want", "d", mark=1, number=1, who=name, link="l")
            if keeper.take(letter, reading)[0].kind == "grant":
                return now
            now += 1

    def assert_held(self, stage, now, spare):
        """Right at that moment c holds it no more; where settings aren't safe by one, it still does."""
        self.assertEqual(stage.asker.state(stage.reading("c", now - 1)), "holding")
        state = "idle" if spare >= 0 else "holding"
        self.assertEqual(stage.asker.state(stage.reading("c", now)), state)

    def test_the_grace(self):
        for spare in (0, -1):
            for settings in self.stages(spare):
                stage = self.lent(settings)
                stage.turn_clocks("two")
                now = self.lent_first_at(stage.two, "two", stage, 0)
                self.assert_held(stage, now, spare)

    def test_the_wait_by_the_reading(self):
        for spare in (0, -1):
            for settings in self.stages(spare):
                stage = self.lent(settings)
                stage.one.alone(stage.reading("one", 0))
                stage.turn_clocks("one")
                now = self.lent_first_at(stage.one, "one", stage, 0)
                self.assert_held(stage, now, spare)

    def test_the_wait_by_what_the_other_knows(self):
        for spare in (0, -1):
            for settings in self.stages(spare):
                if settings.lease < 2 * settings.lead:
                    continue
                stage = self.lent(settings)
                # One knows of the first end, two that it does; of the renewal nothing is known.
                seen, = stage.one.take(stage.told[0], stage.reading("one", 0))
                stage.two.take(seen, stage.reading("two", 0))
                stage.ask(stage.asker.renew)
                self.assertEqual(stage.asker.held_to(stage.reading("c", 0)), settings.slack + 2 * settings.lead)
                stage.one.alone(stage.reading("one", 0))
                stage.turn_clocks("one")
                now = self.lent_first_at(stage.one, "one", stage, 0)
                self.assert_held(stage, now, spare)

    def lent(self, settings):
        stage = Stage(settings)
        self.assertEqual(stage.reading("two", 0), -settings.slack)
        self.assertEqual(stage.asker.held(stage.reading("c", 0)), 1)
        self.assertEqual(stage.asker.held_to(stage.reading("c", 0)), settings.slack + settings.lead)
        return stage


if __name__ == "__main__":
    unittest.main()
