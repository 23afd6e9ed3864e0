"""Point 22: what is refused as an event, by which refusal, and that nothing but the count of events is changed."""

import unittest

from leasepair.errors import NoClock, NoDeed, NoEvent, NoName, NoNumber, NoPlace

from tests.helpers import THINGS, WIDE, refused
from tests.worldly import lend, told_of, world

TWELVE = 999999999999
ASKER_WORDS = ("find", "renew", "free", "spoil")
LETTER_WORDS = ("hand", "lose", "twice")
RELAY_WORDS = ("shut", "open")
KEEPER_WORDS = ("stop", "start", "alone", "again")
NAME_WORDS = ASKER_WORDS + RELAY_WORDS + KEEPER_WORDS
NO_NAMES = (
    "", "C", "abcdefghi", "c ", " c", "c1", "c-d", "*", None, 1, 0, True, False, ("c",), ["c"], (), [], "~" * 2000,
)
NO_WHOLES = (TWELVE + 1, -TWELVE - 1, WIDE, -WIDE, True, False, None, "1", "", (1,), [1], (), [])


class Refused(unittest.TestCase):

    def setUp(self):
        """A world in which something of each kind can be refused: c holds 2, two is stopped, r is shut."""
        self.made = world()
        lend(self.made, "c", "one")
        self.made.do(("stop", "two"))
        self.made.do(("shut", "r"))

    def refusal(self, error, event):
        """The refusal of an event; it counts, and changes nothing else."""
        before, tried = told_of(self.made), self.made.tried()
        with self.subTest(event=event):
            caught = refused(self, error, self.made.do, event)
            self.assertEqual(told_of(self.made), before)
            self.assertEqual(self.made.tried(), tried + 1)
            return caught


class NoEvents(Refused):

    def test_any_things(self):
        for thing in THINGS:
            self.refusal(NoEvent, thing)

    def test_any_things_within(self):
        for thing in THINGS:
            self.refusal(NoEvent, (thing,))
            self.refusal(NoEvent, (thing, "c"))
            self.refusal(NoEvent, (thing, 0))
            self.refusal(NoEvent, ("wait", thing, thing))
            self.refusal(NoEvent, ("lag", thing, thing))
            self.refusal(NoEvent, ("give", "c", thing, thing))

    def test_words(self):
        for word in ("", "Find", "find ", "seek", "take", "pass", "put", "do", "finds", "world", 1, None, ("find",), True):
            self.refusal(NoEvent, (word, "c"))
            self.refusal(NoEvent, (word, 1))
            self.refusal(NoEvent, (word, "c", 1))

    def test_lengths(self):
        for word in NAME_WORDS:
            for event in ((word,), (word, "c", "c"), (word, "c", 1), (word, "c", None), (word, "one", 2, 2)):
                self.refusal(NoEvent, event)
        for word in LETTER_WORDS + ("wait",):
            for event in ((word,), (word, 1, 1), (word, 1, None), (word, "c", 1)):
                self.refusal(NoEvent, event)
        for word in ("lag", "give"):
            for event in ((word,), (word, "one"), (word, "one", 2, 2), (word, 2, "one"), (word, 2)):
                self.refusal(NoEvent, event)

    def test_lists(self):
        for event in (["wait", 1], ["find", "d"], ["hand", 0], ["lag", "c", 1], ["again", "one"], [("wait", 1)]):
            self.refusal(NoEvent, event)
            self.refusal(NoEvent, (event,))

    def test_events_within_a_tuple(self):
        self.refusal(NoEvent, (("wait", 1),))
        self.refusal(NoEvent, (("wait", 1), ("wait", 1)))

    def test_texts(self):
        for event in ("wait 1", "find c", "wait", "-"):
            self.refusal(NoEvent, event)
            self.refusal(NoEvent, (event,))

    def test_moments(self):
        for moments in (0, -1, 1000000, TWELVE, -TWELVE) + NO_WHOLES:
            self.refusal(NoEvent, ("wait", moments))

    def test_no_names(self):
        for name in NO_NAMES:
            for word in NAME_WORDS:
                self.refusal(NoEvent, (word, name))
            for word in ("lag", "give"):
                self.refusal(NoEvent, (word, name, 1))

    def test_no_whole_numbers(self):
        for whole in NO_WHOLES:
            for word in LETTER_WORDS:
                self.refusal(NoEvent, (word, whole))
            for word in ("lag", "give"):
                for name in ("one", "two", "zzz"):
                    self.refusal(NoEvent, (word, name, whole))


class NobodyThere(Refused):

    def assert_no_name(self, event):
        self.assertEqual(self.refusal(NoName, event).name, event[1])

    def test_askers(self):
        for word in ASKER_WORDS:
            for name in ("a", "one", "two", "r", "l", "zzzzzzzz"):
                self.assert_no_name((word, name))

    def test_relays(self):
        for word in RELAY_WORDS:
            for name in ("a", "one", "two", "c", "l", "zzzzzzzz"):
                self.assert_no_name((word, name))

    def test_keepers(self):
        for word in KEEPER_WORDS:
            for name in ("a", "three", "c", "r", "l", "zzzzzzzz"):
                self.assert_no_name((word, name))

    def test_clocks(self):
        for name in ("a", "r", "l", "three"):
            for lag in (0, 2, 3, -3, TWELVE, -TWELVE):
                self.assert_no_name(("lag", name, lag))

    def test_givers(self):
        for name in ("a", "c", "r", "l"):
            for number in (2, 7, -1, TWELVE, -TWELVE):
                self.assert_no_name(("give", name, number))


class NotThere(Refused):

    def test_places(self):
        many = len(self.made.letters())
        self.assertEqual(many, 3)
        for word in LETTER_WORDS:
            for place in (-1, -3, -TWELVE, 3, 4, TWELVE):
                caught = self.refusal(NoPlace, (word, place))
                self.assertEqual((caught.place, caught.many), (place, 3))

    def test_places_of_none(self):
        self.made = world()
        for word in LETTER_WORDS:
            for place in (0, -1, 1):
                caught = self.refusal(NoPlace, (word, place))
                self.assertEqual((caught.place, caught.many), (place, 0))

    def test_the_last_place(self):
        self.made.do(("lose", 2))
        caught = self.refusal(NoPlace, ("hand", 2))
        self.assertEqual((caught.place, caught.many), (2, 2))
        self.made.do(("hand", 1))

    def test_lags(self):
        for name in ("c", "d", "one", "two"):
            for lag in (3, -3, 999, TWELVE, -TWELVE):
                caught = self.refusal(NoClock, ("lag", name, lag))
                self.assertEqual((caught.asked, caught.slack), (lag, 2))

    def test_lags_without_slack(self):
        self.made = world(slack=0)
        for lag in (1, -1):
            caught = self.refusal(NoClock, ("lag", "c", lag))
            self.assertEqual((caught.asked, caught.slack), (lag, 0))
        self.made.do(("lag", "c", 0))

    def test_numbers(self):
        # Of a stopped keeper, too: it stands ahead of what can't be done now.
        for name in ("one", "two"):
            for number in (0, 7, 9, 13, -1, -2, 999999, TWELVE, -TWELVE):
                self.assertEqual(self.refusal(NoNumber, ("give", name, number)).number, number)

    def test_numbers_to_one_that_is_back(self):
        self.made.do(("start", "two"))
        self.assertEqual(self.refusal(NoNumber, ("give", "two", 7)).number, 7)


class NotNow(Refused):

    def assert_no_deed(self, event):
        self.assertEqual(self.refusal(NoDeed, event).word, event[0])

    def test_a_holder_seeks(self):
        self.assert_no_deed(("find", "c"))

    def test_others_hand_in(self):
        for word in ("renew", "free", "spoil"):
            self.assert_no_deed((word, "d"))
        self.made.do(("find", "d"))
        for word in ("renew", "free", "spoil"):
            self.assert_no_deed((word, "d"))

    def test_one_whose_time_is_over(self):
        self.made.do(("wait", 19))
        self.assert_no_deed(("find", "c"))
        self.made.do(("wait", 1))
        for word in ("renew", "free", "spoil"):
            self.assert_no_deed((word, "c"))
        self.made.do(("find", "c"))

    def test_relays(self):
        self.assert_no_deed(("shut", "r"))
        self.assert_no_deed(("open", "q"))
        self.made.do(("open", "r"))
        self.assert_no_deed(("open", "r"))
        self.made.do(("shut", "q"))
        self.assert_no_deed(("shut", "q"))

    def test_a_running_keeper(self):
        self.assert_no_deed(("start", "one"))
        self.made.do(("alone", "one"))
        self.assert_no_deed(("start", "one"))
        self.made.do(("start", "two"))
        self.assert_no_deed(("start", "two"))

    def test_a_stopped_keeper(self):
        for event in (("stop", "two"), ("alone", "two"), ("again", "two"), ("give", "two", 1), ("give", "two", 2)):
            self.assert_no_deed(event)
        self.made.do(("stop", "one"))
        for event in (("stop", "one"), ("alone", "one"), ("again", "one"), ("give", "one", 4)):
            self.assert_no_deed(event)

    def test_alone_while_the_other_runs(self):
        self.made.do(("start", "two"))
        self.assert_no_deed(("alone", "one"))
        self.made = world()
        for name in ("one", "two"):
            self.assert_no_deed(("alone", name))

    def test_alone_where_it_is_not_paired(self):
        self.made.do(("alone", "one"))
        self.assert_no_deed(("alone", "one"))
        self.made.do(("stop", "one"))
        self.made.do(("start", "two"))
        self.assertEqual(self.made.state("two"), "back")
        self.assert_no_deed(("alone", "two"))

    def test_give(self):
        for number in (1, 2, 10):
            # Two has the titles of 1 and 10, and c holds 2.
            self.assert_no_deed(("give", "one", number))
        self.made.do(("alone", "one"))
        self.assert_no_deed(("give", "one", 4))

    def test_give_by_one_that_is_back(self):
        self.made.do(("start", "two"))
        self.assert_no_deed(("give", "two", 1))


class AsIfItWereNot(unittest.TestCase):
    """What was refused on the way has no hand in anything later."""

    WRONG = (
        None, [], (), ("wait", 0), ["wait", 5], ("wait", True), ("find", "one"), ("renew", "f"), ("hand", -1), ("lose", 99),
        ("lag", "c", 3), ("lag", "one", -3), ("give", "one", 7), ("open", "r"), ("start", "two"), ("alone", "one"),
        ("give", "two", 2), ("stop", "three"),
    )
    RIGHT = (
        ("lag", "c", 2), ("find", "c"), ("hand", 0), ("hand", 1), ("hand", 1), ("hand", 2), ("wait", 7), ("hand", 2),
        ("hand", 2), ("renew", "c"), ("twice", 2), ("hand", 2), ("hand", 3), ("lag", "one", -2), ("give", "one", 4),
        ("wait", 9), ("again", "one"), ("hand", 3), ("free", "c"), ("find", "d"), ("hand", 6),
    )

    def test_refused_on_the_way(self):
        made, other = world(), world()
        for event in self.RIGHT:
            for wrong in self.WRONG:
                with self.assertRaises((NoEvent, NoName, NoPlace, NoClock, NoNumber, NoDeed)):
                    made.do(wrong)
            made.do(event)
            other.do(event)
            self.assertEqual(told_of(made), told_of(other))
        self.assertEqual(other.tried(), len(self.RIGHT))
        self.assertEqual(made.tried(), len(self.RIGHT) * (1 + len(self.WRONG)))


if __name__ == "__main__":
    unittest.main()
