"""Point 23: what a world tells, and runs."""

import unittest

from leasepair.errors import NoName, NoRun

from tests.helpers import THINGS, refused
from tests.worldly import come_back, hand, lend, lose_all, small, told_of, world

# One too little of grace: c, whose clock is late then, holds 2 still when one lends it to d.
BROKEN = {"slack": 2, "grace": 7}


def two_holders():
    made = small(askers=("d", "c"), numbers=2, **BROKEN)
    for event in (("lag", "one", -2), ("wait", 2), ("lag", "c", 2)):
        made.do(event)
    lend(made, "c", "one")
    for event in (("lag", "c", -2), ("lag", "one", 2), ("wait", 23)):
        made.do(event)
    return made


class Told(unittest.TestCase):

    def test_holders(self):
        made = world()
        lend(made, "c", "one")
        lend(made, "d", "two")
        lend(made, "e", "two")
        self.assertEqual(made.holders(2), ["c"])
        self.assertEqual(made.holders(1), ["d"])
        self.assertEqual(made.holders(10), ["e"])
        for number in (3, 4, 11, 0, -1, 7, 13, 10 ** 59, -10 ** 59):
            self.assertEqual(made.holders(number), [])
        made.do(("wait", 20))
        for number in (1, 2, 10):
            self.assertEqual(made.holders(number), [])

    def test_holders_by_their_own_clocks(self):
        made = world()
        lend(made, "c", "one")
        made.do(("wait", 18))
        self.assertEqual(made.holders(2), ["c"])
        made.do(("lag", "c", 2))
        self.assertEqual((made.holders(2), made.state("c"), made.holds()), ([], "idle", []))

    def test_both(self):
        made = two_holders()
        self.assertEqual((made.both(), made.ever_both()), ([], False))
        lend(made, "d", "one")
        self.assertEqual((made.both(), made.ever_both()), ([2], True))
        self.assertEqual(made.holders(2), ["c", "d"])
        self.assertEqual(made.holders(1), [])
        self.assertEqual([row[:2] for row in made.holds()], [(2, "c"), (2, "d")])

    def test_ever_both_stays(self):
        made = two_holders()
        lend(made, "d", "one")
        made.do(("wait", 1))
        self.assertEqual((made.both(), made.ever_both(), made.holders(2)), ([], True, ["d"]))
        made.do(("free", "d"))
        made.do(("wait", 500))
        self.assertEqual((made.both(), made.ever_both(), made.holders(2)), ([], True, []))

    def test_two_numbers_at_once(self):
        made = small(askers=("f", "e", "d", "c"), numbers=2, **BROKEN)
        for event in (("lag", "one", -2), ("lag", "two", -2), ("wait", 2), ("lag", "c", 2), ("lag", "d", 2)):
            made.do(event)
        lend(made, "c", "two")
        lend(made, "d", "one")
        for event in (("lag", "c", -2), ("lag", "d", -2), ("lag", "one", 2), ("lag", "two", 2), ("wait", 23)):
            made.do(event)
        lend(made, "f", "one")
        self.assertEqual(made.both(), [2])
        lend(made, "e", "two")
        self.assertEqual(made.both(), [1, 2])
        self.assertEqual((made.holders(1), made.holders(2)), (["c", "e"], ["d", "f"]))
        self.assertEqual([row[:2] for row in made.holds()], [(1, "c"), (1, "e"), (2, "d"), (2, "f")])
        made.do(("free", "c"))
        self.assertEqual(made.both(), [2])

    def test_readings(self):
        made = world()
        made.do(("lag", "d", -2))
        made.do(("lag", "two", 1))
        made.do(("wait", 5))
        self.assertEqual([made.reading(name) for name in ("c", "d", "one", "two")], [5, 3, 5, 6])
        self.assertEqual(made.reading(name="two"), 6)

    def test_readings_of_nobody(self):
        made = world()
        for name in ("a", "r", "q", "l", "three", "", "C", "abcdefghi"):
            self.assertEqual(refused(self, NoName, made.reading, name).name, name)
            self.assertEqual(refused(self, NoName, made.state, name).name, name)

    def test_titled(self):
        made = world()
        self.assertEqual((made.titled(2), made.titled(number=1)), (["one"], ["two"]))
        made.do(("stop", "two"))
        self.assertEqual((made.titled(2), made.titled(1)), (["one"], []))
        made.do(("alone", "one"))
        self.assertEqual((made.titled(2), made.titled(1)), (["one"], ["one"]))
        made.do(("stop", "one"))
        self.assertEqual((made.titled(2), made.titled(1)), ([], []))
        made.do(("start", "two"))
        # Two is back: it has still the title of 1 in its books, but doesn't serve.
        self.assertEqual((made.titled(2), made.titled(1)), ([], []))
        made.do(("start", "one"))
        self.assertEqual((made.titled(2), made.titled(1)), (["one"], ["one"]))
        hand(made, "back", "two", "one")
        hand(made, "books", "one", "two")
        self.assertEqual((made.titled(2), made.titled(1)), (["one"], ["one"]))
        self.assertEqual(made.state("two"), "paired")

    def test_states(self):
        made = world()
        seen = []
        for event in (
            ("find", "c"), ("hand", 0), ("hand", 1), ("hand", 1), ("hand", 2), ("wait", 19), ("wait", 1), ("stop", "one"),
            ("alone", "two"), ("stop", "two"), ("start", "one"), ("start", "two"),
        ):
            made.do(event)
            seen.append((made.state("c"), made.state("one"), made.state("two")))
        self.assertEqual(seen, [
            ("asked", "paired", "paired"), ("asked", "paired", "paired"), ("wanting", "paired", "paired"),
            ("wanting", "paired", "paired"), ("holding", "paired", "paired"), ("holding", "paired", "paired"),
            ("idle", "paired", "paired"), ("idle", "stopped", "paired"), ("idle", "stopped", "alone"),
            ("idle", "stopped", "stopped"), ("idle", "back", "stopped"), ("idle", "back", "alone"),
        ])

    def test_tried(self):
        made = world()
        for at, event in enumerate((("wait", 1), ("wait", 2), ("find", "c"), ("hand", 0)), start=1):
            made.do(event)
            self.assertEqual(made.tried(), at)

    def test_to_ask_changes_nothing(self):
        made, other = world(), world()
        for event in (("find", "c"), ("hand", 0), ("hand", 1), ("hand", 1), ("hand", 2), ("wait", 20), ("find", "c")):
            made.do(event)
            other.do(event)
            for step in range(3):
                told_of(made)
            self.assertEqual(told_of(made), told_of(made))
            self.assertEqual(told_of(made), told_of(other))
        self.assertEqual(made.tried(), other.tried())

    def test_told_lists_are_new_ones(self):
        made = two_holders()
        lend(made, "d", "one")
        for ask in (
            made.letters, made.both, made.holds, lambda: made.holders(2), lambda: made.titled(2),
            lambda: made.titled(99), lambda: made.holders(99),
        ):
            first = ask()
            before = list(first)
            self.assertIsNot(ask(), first)
            first.append("more")
            first.reverse()
            self.assertEqual(ask(), before)
            first.clear()
            self.assertEqual(ask(), before)

    def test_later_deeds_change_no_told_list(self):
        made = two_holders()
        lend(made, "d", "one")
        told = [made.letters(), made.both(), made.holds(), made.holders(2), made.titled(2)]
        before = [list(part) for part in told]
        made.do(("give", "two", 1))
        made.do(("free", "c"))
        made.do(("free", "d"))
        made.do(("stop", "one"))
        made.do(("alone", "two"))
        lose_all(made)
        self.assertEqual(told, before)
        self.assertEqual([made.letters(), made.both(), made.holds(), made.holders(2), made.titled(2)], [
            [], [], [], [], ["two"],
        ])

    def test_told_letters_are_the_askers_own(self):
        made = world()
        made.do(("find", "c"))
        before = made.letters()
        told = made.letters()
        told[0].mark = 77
        told[1].receiver = "one"
        self.assertEqual(made.letters(), before)
        made.do(("hand", 0))
        self.assertEqual(made.letters()[1].mark, 1)


class Runs(unittest.TestCase):

    EVENTS = (("find", "c"), ("hand", 0), ("hand", 1), ("hand", 1), ("hand", 2), ("wait", 5))

    def test_of_a_tuple_and_of_a_list(self):
        other = world()
        for event in self.EVENTS:
            other.do(event)
        for events in (self.EVENTS, list(self.EVENTS)):
            made = world()
            self.assertIsNone(made.run(events))
            self.assertEqual(told_of(made), told_of(other))
            self.assertEqual(made.tried(), 6)
            self.assertEqual(list(events), list(self.EVENTS))
        made = world()
        made.run(events=self.EVENTS)
        self.assertEqual(told_of(made), told_of(other))

    def test_of_none(self):
        made = world()
        self.assertIsNone(made.run(()))
        self.assertIsNone(made.run([]))
        self.assertEqual((made.tried(), told_of(made)), (0, told_of(world())))

    def test_refused(self):
        for wrong in (None, ("wait", 0), ["wait", 1], ("find", "zzz"), ("hand", 99), ("lag", "c", 9), ("give", "one", 0),
                      ("start", "one"), ("renew", "d")):
            for at in range(len(self.EVENTS) + 1):
                made, other = world(), world()
                with self.subTest(wrong=wrong, at=at):
                    events = self.EVENTS[:at] + (wrong,) + self.EVENTS[at:]
                    self.assertEqual(refused(self, NoRun, made.run, events).at, at)
                    for event in self.EVENTS[:at]:
                        other.do(event)
                    self.assertEqual(told_of(made), told_of(other))
                    self.assertEqual(made.tried(), at + 1)

    def test_the_first_one_that_is_refused(self):
        made = world()
        events = [("wait", 1), ("wait", 0), ("wait", 1), None]
        self.assertEqual(refused(self, NoRun, made.run, events).at, 1)
        self.assertEqual((made.now(), made.tried()), (1, 2))
        # A place is told from the run's own first event on.
        self.assertEqual(refused(self, NoRun, made.run, events).at, 1)
        self.assertEqual((made.now(), made.tried()), (2, 4))

    def test_any_things(self):
        for thing in THINGS:
            made = world()
            self.assertEqual(refused(self, NoRun, made.run, [("wait", 3), thing]).at, 1)
            self.assertEqual(refused(self, NoRun, made.run, (thing, ("wait", 3))).at, 0)
            self.assertEqual((made.now(), made.tried()), (3, 3))

    def test_six_hundred(self):
        made = world()
        made.run([("wait", 999999), ("find", "c"), ("lose", 0), ("lose", 0)] * 150)
        self.assertEqual((made.now(), made.tried(), made.letters()), (150 * 999999, 600, []))
        lend(made, "c", "one")
        self.assertEqual(made.holds()[0][2], 150 * 999999 + 22)


class Holds(unittest.TestCase):
    """Point 24, each number reckoned by hand."""

    def test_of_none(self):
        made = world()
        made.do(("find", "c"))
        self.assertEqual(made.holds(), [])

    def test_rising(self):
        made = world()
        lend(made, "e", "one")
        lend(made, "d", "one")
        lend(made, "c", "two")
        self.assertEqual(made.holds(), [(1, "c", 22, 26, 26), (2, "d", 22, 26, 26), (11, "e", 22, 26, 26)])

    def test_paired(self):
        made = world()
        made.do(("wait", 100))
        lend(made, "c", "one")
        # One lent it to 120; two would wait from its reading, 100, on.
        self.assertEqual(made.holds(), [(2, "c", 122, 126, 126)])
        made.do(("wait", 3))
        self.assertEqual(made.holds(), [(2, "c", 122, 126, 129)])
        hand(made, "told", "one", "two")
        # Two knows of the end, 120.
        self.assertEqual(made.holds(), [(2, "c", 122, 126, 146)])

    def test_by_far_or_by_the_reading(self):
        made = small(lease=60, lead=3, slack=2, grace=8, wait=11)
        lend(made, "c", "two")
        hand(made, "told", "two", "one")
        self.assertEqual(made.holds(), [(1, "c", 5, 12, 9)])
        made.do(("lag", "c", -2))
        made.do(("lag", "one", 2))
        made.do(("wait", 4))
        # One reads 6, beyond the end that it was told.
        self.assertEqual(made.holds(), [(1, "c", 5, 15, 9)])

    def test_by_clocks(self):
        made = small()
        made.do(("wait", 50))
        made.do(("lag", "c", 1))
        made.do(("lag", "two", 2))
        lend(made, "c", "two")
        made.do(("lag", "one", -2))
        made.do(("wait", 2))
        # Two lent it to 72, c holds it to 71, one reads 50.
        self.assertEqual(made.holds(), [(1, "c", 73, 76, 78)])

    def test_now(self):
        made = small(slack=5, grace=0, wait=0)
        for event in (("lag", "c", 5), ("wait", 5)):
            made.do(event)
        lend(made, "c", "two")
        # Two lent it to 25, c holds it to 30 by its clock; one could be alone, and lend it, now.
        self.assertEqual(made.holds(), [(1, "c", 35, 5, 20)])
        made.do(("wait", 15))
        self.assertEqual(made.holds(), [(1, "c", 35, 20, 20)])
        made.do(("lag", "c", -5))
        made.do(("wait", 8))
        self.assertEqual(made.holds(), [(1, "c", 35, 28, 28)])

    def test_given_away(self):
        made = small(slack=5, grace=0)
        for event in (("lag", "c", 5), ("wait", 5)):
            made.do(event)
        lend(made, "c", "two")
        for event in (("lag", "c", -5), ("wait", 20), ("give", "two", 1)):
            made.do(event)
        # Neither has the title; both read 25, and know of no end.
        self.assertEqual(made.holds(), [(1, "c", 35, 48, 48)])
        hand(made, "give", "two", "one")
        # One has it, with neither end nor since.
        self.assertEqual(made.holds(), [(1, "c", 35, 25, 48)])
        made.do(("wait", 3))
        self.assertEqual(made.holds(), [(1, "c", 35, 28, 51)])

    def test_the_way_of_a_number_over_both_keepers(self):
        made = world()
        lend(made, "c", "one")
        hand(made, "told", "one", "two")
        hand(made, "seen", "two", "one")
        made.do(("wait", 10))
        made.do(("renew", "c"))
        hand(made, "renew", "c", "one")
        hand(made, "grant", "one", "c")
        # One lent it to 40; two knows of 20.
        self.assertEqual(made.holds(), [(2, "c", 42, 46, 46)])
        made.do(("stop", "one"))
        self.assertEqual(made.holds(), [(2, "c", 42, None, 46)])
        made.do(("alone", "two"))
        # By since, 48.
        self.assertEqual(made.holds(), [(2, "c", 42, None, 46)])
        made.do(("wait", 27))
        self.assertEqual(made.holds(), [(2, "c", 42, None, 46)])
        made.do(("renew", "c"))
        hand(made, "renew", "c", "two")
        hand(made, "grant", "two", "c")
        # Two, which is alone, lent it to 97.
        self.assertEqual(made.holds(), [(2, "c", 99, None, 103)])
        made.do(("stop", "two"))
        self.assertEqual(made.holds(), [(2, "c", 99, None, 103)])
        made.do(("start", "one"))
        self.assertEqual((made.state("one"), made.holds()), ("back", [(2, "c", 99, None, 103)]))
        made.do(("stop", "one"))
        self.assertEqual(made.holds(), [(2, "c", 99, None, 103)])
        made.do(("start", "two"))
        self.assertEqual((made.state("two"), made.holds()), ("alone", [(2, "c", 99, None, 103)]))
        come_back(made, "one", "two")
        # One knows of 97 by the books.
        self.assertEqual(made.holds(), [(2, "c", 99, 123, 103)])
        made.do(("stop", "two"))
        self.assertEqual(made.holds(), [(2, "c", 99, 123, None)])

    def test_since_beyond_the_end_and_the_grace(self):
        made = small(lease=20, lead=10, wait=300)
        lend(made, "c", "two")
        hand(made, "told", "two", "one")
        made.do(("stop", "two"))
        made.do(("alone", "one"))
        # Since is 10 and 300.
        self.assertEqual(made.holds(), [(1, "c", 12, 308, None)])
        made.do(("wait", 9))
        made.do(("renew", "c"))
        hand(made, "renew", "c", "one")
        hand(made, "grant", "one", "c")
        # One lent it to 29; since is later still.
        self.assertEqual(made.holds(), [(1, "c", 31, 308, None)])

    def test_one_that_is_stopped(self):
        made = small()
        lend(made, "c", "two")
        made.do(("stop", "one"))
        self.assertEqual(made.holds(), [(1, "c", 22, None, 26)])
        made.do(("stop", "two"))
        self.assertEqual(made.holds(), [(1, "c", 22, None, None)])
        made.do(("start", "two"))
        self.assertEqual(made.holds(), [(1, "c", 22, None, None)])

    def test_the_greatest(self):
        made = small(lease=999999, lead=999999, slack=9999, grace=999999, wait=999999)
        for event in (("lag", "two", -9999), ("wait", 9999), ("lag", "c", 9999)):
            made.do(event)
        lend(made, "c", "two")
        self.assertEqual(made.holds(), [(1, "c", 9999 * 3 + 999999, 999999, 2 * 999999 - 9999)])


if __name__ == "__main__":
    unittest.main()
