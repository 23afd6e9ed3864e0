"""Point 26: the looker, of good claims and of any things."""

import random
import unittest

from leasepair.papers import looked, paper
from leasepair.pools import Pool
from leasepair.settings import Settings

from tests.helpers import THINGS, WIDE, many_singles

ROW = (60, 20, 2, 8, 28, 30)
NO_GRACE = (60, 20, 2, 7, 28, 30)
NO_WAIT = (60, 20, 2, 8, 27, 30)
# Other ways to break the settings than the papers of the program itself.
BY_GRACE = (
    ("wait", 100), ("lag", "two", -2), ("wait", 4), ("lag", "c", 2), ("find", "c"), ("hand", 1), ("lose", 0), ("hand", 0),
    ("lose", 0), ("hand", 0), ("hand", 0), ("lag", "c", -2), ("lag", "two", 2), ("wait", 23), ("find", "d"), ("lose", 1),
    ("hand", 1), ("lose", 0), ("hand", 0), ("hand", 1), ("hand", 1),
)
BY_WAIT = (
    ("lag", "one", -2), ("wait", 2), ("lag", "c", 2), ("find", "c"), ("hand", 1), ("hand", 1), ("hand", 2), ("hand", 2),
    ("stop", "two"), ("alone", "one"), ("lag", "c", -2), ("lag", "one", 2), ("wait", 23), ("find", "d"), ("hand", 3),
    ("hand", 4), ("hand", 4), ("hand", 5), ("wait", 999),
)


class Looked(unittest.TestCase):

    def good(self, claim, shown):
        with self.subTest(claim=claim, shown=shown):
            self.assertIs(looked(claim, shown), True)

    def bad(self, claim, shown):
        with self.subTest(claim=claim, shown=shown):
            self.assertIs(looked(claim, shown), False)


class Safe(Looked):

    def test_good(self):
        self.good(("safe", ROW), (0, 0))
        self.good(("safe", (60, 20, 2, 9, 30, 0)), (1, 2))
        self.good(("safe", (1, 1, 0, 0, 1, 0)), (0, 0))
        self.good(("safe", (999999, 1, 0, 999999, 999999, 999999)), (999999, 999998))
        self.assertIs(looked(claim=("safe", ROW), paper=(0, 0)), True)

    def test_other_spares(self):
        for spares in (
            (0, 1), (1, 0), (-1, 0), (0,), (0, 0, 0), (), [0, 0], (False, False), (0, False), (False, 0), ("0", "0"),
            (None, None), 0, None, "0 0", ((0, 0),), ("safe", (0, 0)), True, (WIDE, 0),
        ):
            self.bad(("safe", ROW), spares)
        self.bad(("safe", (60, 20, 2, 9, 29, 30)), (True, True))
        self.bad(("safe", (60, 20, 2, 9, 29, 30)), (1, True))
        self.good(("safe", (60, 20, 2, 9, 29, 30)), (1, 1))

    def test_settings_that_are_not_safe(self):
        self.bad(("safe", NO_GRACE), (-1, 0))
        self.bad(("safe", NO_WAIT), (0, -1))
        self.bad(("safe", (60, 20, 2, 7, 30, 30)), (-1, 2))

    def test_no_rows(self):
        for row in (
            list(ROW), ROW[:5], ROW + (0,), (), None, "60 20 2 8 28 30", 60, (0, 0, 0, 0, 0, 0), (60, 61, 2, 8, 69, 30),
            (60, 0, 2, 8, 8, 30), (1000000, 20, 2, 8, 28, 30), (60, 20, 2, 8, 28, 1000000), (60, 20, 2, 8, 28, -1),
            (60, 20, 2, 8, 28, None), (60, 20, 2, 8, 28, "30"), (60, 20, 2, 8, 28, True), (60, 20, -2, -8, 12, 30),
            (60, 20, 10000, 40000, 40020, 30), (WIDE, 20, 2, 8, 28, 30), (True, 1, 0, 0, 1, 0), (1, True, 0, 0, 1, 0),
            (1, 1, False, 0, 1, 0), (1, 1, 0, False, 1, 0), (1, 1, 0, 0, True, 0), (1, 1, 0, 0, 1, False), (ROW,),
        ):
            self.bad(("safe", row), (0, 0))

    def test_other_claims(self):
        for claim in (
            ["safe", ROW], ("safe", ROW, 0), ("safe",), ("Safe", ROW), ("", ROW), ("safe ", ROW), (ROW, "safe"), ("safe", [ROW]),
            ("broken", ROW), ("dealt", ROW), ("safe",) + ROW, (("safe", ROW),), None, "safe", (1, ROW), (True, ROW), (("safe",), ROW),
        ):
            self.bad(claim, (0, 0))


class Broken(Looked):

    def test_good(self):
        self.good(("broken", NO_GRACE), BY_GRACE)
        self.good(("broken", NO_WAIT), BY_WAIT)
        self.good(("broken", NO_WAIT[:5] + (0,)), BY_WAIT)
        for settings in (Settings(grace=7), Settings(wait=27), Settings(lead=60, grace=0, wait=0)):
            self.good(("broken", settings.row()), paper(settings)[1])

    def test_both_ever(self):
        # At the end c holds it no more, but they ever held it at once.
        self.good(("broken", NO_GRACE), BY_GRACE + (("wait", 1),))
        self.good(("broken", NO_GRACE), BY_GRACE + (("free", "c"), ("free", "d"), ("wait", 9999)))

    def test_eighty_events(self):
        self.good(("broken", NO_GRACE), BY_GRACE + (("wait", 1),) * (80 - len(BY_GRACE)))
        self.bad(("broken", NO_GRACE), BY_GRACE + (("wait", 1),) * (81 - len(BY_GRACE)))
        self.bad(("broken", NO_GRACE), (("wait", 1),) * 80)
        self.bad(("broken", NO_GRACE), BY_GRACE * 20)

    def test_other_settings(self):
        self.bad(("broken", ROW), BY_GRACE)
        self.bad(("broken", ROW), BY_WAIT)
        self.bad(("broken", NO_GRACE), BY_WAIT)
        self.bad(("broken", NO_WAIT), BY_GRACE)
        self.bad(("broken", ROW), ())
        self.bad(("broken", NO_GRACE), ())

    def test_one_event_is_missing(self):
        for at in range(2, len(BY_GRACE)):
            self.bad(("broken", NO_GRACE), BY_GRACE[:at] + BY_GRACE[at + 1:])

    def test_events_that_cannot_be_done(self):
        for wrong in (
            ("wait", 0), ("wait", True), ["wait", 1], ("find", "e"), ("find", "one"), ("hand", 99), ("hand", -1),
            ("lag", "c", 3), ("give", "one", 2), ("start", "one"), ("renew", "c", 1), ("open", "r"), None, "wait 1", (), [],
            ("wait",), WIDE, True, (("wait", 1),),
        ):
            for at in (0, 7, len(BY_GRACE)):
                self.bad(("broken", NO_GRACE), BY_GRACE[:at] + (wrong,) + BY_GRACE[at:])

    def test_other_kinds(self):
        for shown in (
            list(BY_GRACE), ("broken", BY_GRACE), (BY_GRACE,), None, True, "", "-", tuple(list(event) for event in BY_GRACE),
            tuple(BY_GRACE[:-1]) + (("hand", True),), 80,
        ):
            self.bad(("broken", NO_GRACE), shown)
        for row in (list(NO_GRACE), NO_GRACE[:5], NO_GRACE + (0,), NO_GRACE[:5] + (True,), NO_GRACE[:5] + (-1,), None, ()):
            self.bad(("broken", row), BY_GRACE)
        for claim in (
            ["broken", NO_GRACE], ("broken", NO_GRACE, 1), ("broken",), ("safe", NO_GRACE), ("Broken", NO_GRACE),
            ("broken",) + NO_GRACE, ("dealt", NO_GRACE), (NO_GRACE, "broken"),
        ):
            self.bad(claim, BY_GRACE)

    def test_nothing_handed_in_is_changed(self):
        events = list(BY_GRACE)
        looked(("broken", NO_GRACE), events)
        self.assertEqual(events, list(BY_GRACE))


class Dealt(Looked):

    def test_good(self):
        self.good(("dealt", "1-6", 1, 1), ("2,4,6", "1,3,5"))
        self.good(("dealt", "3-7,9", 1, 2), ("5,9", "3-4,6-7"))
        self.good(("dealt", "none", 1, 1), ("none", "none"))
        self.good(("dealt", "5", 1, 0), ("5", "none"))
        self.good(("dealt", "5", 0, 1000), ("none", "5"))
        self.good(("dealt", "5", 1000, 1000), ("none", "5"))

    def test_drawn_ones(self):
        source = random.Random(26)
        for step in range(60):
            pool = many_singles(source.randint(0, 60), source.randint(1, 4), source.randint(0, 9))
            one, other = source.randint(0, 1000), source.randint(1, 1000)
            parts = tuple(str(part) for part in pool.dealt(one=one, other=other))
            self.good(("dealt", str(pool), one, other), parts)
            self.bad(("dealt", str(pool), one, other), parts[:1])
            if parts[0] != parts[1]:
                self.bad(("dealt", str(pool), one, other), parts[::-1])

    def test_two_hundred_numbers(self):
        parts = Pool(((1, 200),)).dealt(one=3, other=5)
        self.good(("dealt", "1-200", 3, 5), tuple(str(part) for part in parts))
        for text in ("1-201", "0-999999", "0,2-999999", "1-100,200-300"):
            self.bad(("dealt", text, 1, 0), (text, "none"))
            self.bad(("dealt", text, 0, 1), ("none", text))

    def test_a_long_text(self):
        pool = many_singles(200, 2, 600000)
        text = str(pool)
        self.assertEqual(len(text), 1399)
        self.good(("dealt", text, 1, 1), tuple(str(part) for part in pool.dealt()))
        self.good(("dealt", text, 1, 0), (text, "none"))
        pool = many_singles(201, 2, 600000)
        self.bad(("dealt", str(pool), 1, 0), (str(pool), "none"))

    def test_other_texts(self):
        for text in (
            "6-1", "1-6,", "1-6 ", " 1-6", "01-6", "1-3,4-6", "4-6,1-3", "1-6,6", "", "None", "-", "1-", "a", "1-6;", "+1",
            None, 1, True, Pool(((1, 6),)).stretches(), ("1-6",), ["1-6"], "1-1000000", "~" * 2000, "9" * 2000, "1," * 999 + "1",
        ):
            self.bad(("dealt", text, 1, 0), (text, "none"))
            self.bad(("dealt", text, 1, 1), ("2,4,6", "1,3,5"))

    def test_other_weights(self):
        for one, other in (
            (0, 0), (-1, 1), (1, -1), (1001, 1), (1, 1001), (True, 1), (1, True), (True, True), (1, None), ("1", 1),
            ((1,), 1), (1, [1]), (2000, 2000), (WIDE, WIDE), (-1, -1), (2, 1), (1, 2),
        ):
            self.bad(("dealt", "1-6", one, other), ("2,4,6", "1,3,5"))
        self.bad(("dealt", "1-6", True, 0), ("1-6", "none"))
        self.bad(("dealt", "1-6", 1, False), ("1-6", "none"))
        self.bad(("dealt", "1-6", 1001, 0), ("1-6", "none"))

    def test_other_parts(self):
        for shown in (
            ["2,4,6", "1,3,5"], ("1,3,5", "2,4,6"), ("2,4,6",), ("2,4,6", "1,3,5", ""), ("2,4,6", "1,3"), ("2,4,6 ", "1,3,5"),
            ("6,4,2", "1,3,5"), (("2,4,6",), "1,3,5"), (None, None), None, "2,4,6 1,3,5", (), True, ("02,4,6", "1,3,5"),
        ):
            self.bad(("dealt", "1-6", 1, 1), shown)

    def test_other_claims(self):
        for claim in (
            ["dealt", "1-6", 1, 1], ("dealt", "1-6", 1), ("dealt", "1-6"), ("dealt", "1-6", 1, 1, 1), ("dealt", ("1-6", 1, 1)),
            ("Dealt", "1-6", 1, 1), ("dealt", 1, 1, "1-6"), ("safe", "1-6", 1, 1), ("dealt",), "dealt",
        ):
            self.bad(claim, ("2,4,6", "1,3,5"))


class AnyThings(Looked):

    def test_things(self):
        for claim in THINGS:
            for shown in THINGS:
                self.bad(claim, shown)

    def test_things_in_the_place_of_a_part(self):
        for thing in THINGS:
            for word in ("safe", "broken", "dealt", "other"):
                for claim in ((word,), (word, thing), (word, thing, 1, 1), (word, "1-6", thing, 1), (word, "1-6", 1, thing)):
                    self.bad(claim, thing)
                for at in range(6):
                    row = ROW[:at] + (thing,) + ROW[at + 1:]
                    self.bad((word, row), thing)
            self.bad(("safe", ROW), (thing, 1))
            self.bad(("safe", ROW), thing)
            self.bad(("broken", NO_GRACE), thing)
            self.bad(("broken", NO_GRACE), BY_GRACE + (thing,))
            self.bad((thing, NO_GRACE), BY_GRACE)
            self.bad(("dealt", "1-6", 1, 1), (thing, thing))

    def test_drawn_things(self):
        source = random.Random(2)
        for step in range(3000):
            self.assertIs(looked(some_thing(source, 4), some_thing(source, 4)), False)


def some_thing(source, depth):
    """Any thing, often with words of claims and events in it."""
    leaves = (None, True, False, 0, 1, -1, 7, 60, WIDE, "safe", "broken", "dealt", "wait", "find", "c", "1-6", "", "none")
    if depth == 0 or source.random() < 0.3:
        return source.choice(leaves)
    things = [some_thing(source, depth - 1) for step in range(source.choice((0, 1, 2, 2, 2, 4, 6)))]
    if things and source.random() < 0.5:
        things[0] = source.choice(("safe", "broken", "dealt", "wait", "find"))
    return tuple(things) if source.random() < 0.8 else things


if __name__ == "__main__":
    unittest.main()
