"""Points 1 and 3: what holds in a whole world, by whatever events; and worlds held against a second one."""

import random
import unittest
from collections import Counter

from leasepair.settings import Settings
from leasepair.worlds import World

from tests.drawn import Drawn, safe_settings
from tests.mirror import Mirror
from tests.worldly import ASKERS, LINKS, NAMES, NUMBERS, REFUSALS, RELAYS, told_of, world


class Looker:
    """Looks at a world of safe settings behind each event."""

    def __init__(self, case):
        self.case = case
        self.held = {}
        self.seen = Counter()

    def look(self, drawn):
        made = drawn.world
        self.case.assertEqual((made.both(), made.ever_both()), ([], False))
        self.look_at_holds(made)
        for number in range(1, drawn.numbers + 1):
            self.case.assertLessEqual(len(made.titled(number)), 1)
        for name in drawn.askers + ("one", "two"):
            self.case.assertLessEqual(abs(made.reading(name) - made.now()), drawn.slack)
        self.case.assertEqual(made.tried(), len(drawn.events))

    def look_at_holds(self, made):
        held = {}
        for number, name, latest, by_one, by_two in made.holds():
            self.case.assertGreater(latest, made.now())
            for by in (by_one, by_two):
                # The latest moment of a hold is never behind the earliest one of another.
                self.case.assertTrue(by is None or latest <= by)
                self.seen["just so"] += latest == by
                self.seen["none"] += by is None
            if self.held.get(name, (None, 0))[0] == number:
                # A lease that is renewed is kept.
                self.case.assertGreaterEqual(latest, self.held[name][1])
                self.seen["renewed"] += latest > self.held[name][1]
            held[name] = (number, latest)
            self.seen["held"] += 1
        self.held = held


class SafeWorlds(unittest.TestCase):

    def test_any_events(self):
        done, seen = Counter(), Counter()
        for seed in range(150):
            looker, source = Looker(self), random.Random(seed)
            drawn = Drawn(source, safe_settings(source), looker.look)
            with self.subTest(seed=seed):
                drawn.draw(200)
            done.update(event[0] for event in drawn.done)
            seen.update(looker.seen)
        for word in (
            "wait", "lag", "find", "renew", "free", "spoil", "hand", "lose", "twice", "shut", "open", "stop", "start",
            "alone", "give", "again",
        ):
            self.assertGreater(done[word], 5, word)
        for word in ("held", "just so", "none", "renewed"):
            self.assertGreater(seen[word], 50, word)

    def test_one_too_little_is_seen(self):
        """The looker would see it, if the settings weren't safe by one."""
        for grace, wait in ((1, 0), (0, 1)):
            found = 0
            for seed in range(40):
                source = random.Random(seed)
                slack, lead = source.choice((1, 2, 3)), source.randint(1, 12)
                settings = Settings(
                    lease=lead + 20, lead=lead, slack=slack, grace=4 * slack - grace, wait=lead + 4 * slack - wait,
                )
                try:
                    Drawn(source, settings, Looker(self).look).draw(200)
                except AssertionError:
                    found += 1
            self.assertGreater(found, 0)


class HeldAgainstAnother(unittest.TestCase):

    def test_by_drawn_events(self):
        for seed in range(40):
            source = random.Random(seed)
            settings = safe_settings(source)
            drawn = Drawn(source, settings, lambda drawn: None)
            with self.subTest(seed=seed):
                drawn.draw(120)
                self.follow(drawn, settings)

    def follow(self, drawn, settings):
        """Does what was done once more, in a new world and in the mirror, side by side."""
        names, numbers = drawn.askers + ("one", "two"), range(5)
        made, mirror = drawn.new_world(settings), Mirror(settings, *drawn.parts)
        for event in drawn.done:
            made.do(event)
            mirror.do(event)
            self.assertEqual(told_of(made, names, numbers), mirror.told_of(names, numbers))
        # What was refused had no hand in it.
        self.assertEqual(told_of(made, names, numbers), told_of(drawn.world, names, numbers))
        self.assertEqual(made.tried(), len(drawn.done))

    def test_by_wild_events_and_any_settings(self):
        done = Counter()
        for seed in range(40):
            source = random.Random(seed)
            settings = Settings(lease=30, lead=10, slack=4, grace=source.choice((0, 20)), wait=source.choice((0, 26)), rest=6)
            made = World(settings, links=LINKS, askers=ASKERS, relays=RELAYS)
            mirror = Mirror(settings, LINKS, ASKERS, RELAYS)
            with self.subTest(seed=seed):
                for step in range(300):
                    event = wild_event(source, len(made.letters()))
                    try:
                        made.do(event)
                    except REFUSALS:
                        done["refused"] += 1
                    else:
                        mirror.do(event)
                        done[event[0]] += 1
                    self.assertEqual(told_of(made), mirror.told_of(NAMES, NUMBERS))
            done["both"] += made.ever_both()
        for word in ("refused", "renew", "free", "spoil", "shut", "open", "alone", "give", "both"):
            self.assertGreater(done[word], 0, word)


def wild_event(source, many):
    """Any event, most of which can be done."""
    word = source.choices(
        ("hand", "find", "lag", "wait", "renew", "free", "spoil", "lose", "twice", "keeper", "give", "relay"),
        (30, 8, 6, 6, 6, 1, 1, 1, 2, 4, 2, 1),
    )[0]
    keeper, asker = source.choice(("one", "two")), source.choice("cde")
    if word in ("hand", "lose", "twice"):
        return word, source.choice((many - 1, many - 2, source.randint(-1, many)))
    if word == "lag":
        return word, source.choice(NAMES), source.choice((-4, 4, -5, 0, 3))
    if word == "wait":
        return word, source.choice((1, 1, 2, 5, 8))
    if word == "keeper":
        return source.choice(("stop", "start", "start", "alone", "alone", "again")), keeper
    if word == "give":
        return word, keeper, source.choice((1, 2, 3, 10, 11, 7))
    if word == "relay":
        return source.choice(("shut", "open", "open")), source.choice("rsq")
    return word, asker


class ByTurns(unittest.TestCase):
    """Point 2: two worlds share nothing."""

    def test_each_as_if_it_were_alone(self):
        for seed in range(10):
            sources = [random.Random(f"{seed} {place}") for place in range(2)]
            runs, both = [[], []], [world(), world()]
            for step in range(150):
                for source, run, made in zip(sources, runs, both):
                    event = wild_event(source, len(made.letters()))
                    run.append(event)
                    try:
                        made.do(event)
                    except REFUSALS:
                        pass
            for run, made in zip(runs, both):
                alone = world()
                for event in run:
                    try:
                        alone.do(event)
                    except REFUSALS:
                        pass
                self.assertEqual(told_of(made), told_of(alone))
                self.assertEqual(made.tried(), alone.tried())


if __name__ == "__main__":
    unittest.main()
