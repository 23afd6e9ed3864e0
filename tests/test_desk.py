"""Point 28: the desk, its rows, its answers and its refusals."""

import random
import unittest

from leasepair.desk import Desk
from leasepair.errors import NoClock, NoDeed, NoName, NoNumber, NoPlace, NoRow, NoRun, NoSetting, TooMany

from tests.helpers import THINGS, refused

SIX = "60 20 2 8 28 30"
LEND = "find c; hand 0; hand 1; hand 1; hand 2"
BROKEN = (
    "lag two -2; wait 2; lag c 2; find c; hand 1; hand 1; hand 2; hand 2; lag c -2; lag two 2; wait 23; find d; hand 4; "
    "hand 4; hand 5; hand 5"
)
NO_NUMBERS = ("", "a", "+60", "060", "-0", "00", "6.0", "1000000000000", "-1000000000000", "9" * 60, "six", "60,", "6_0", "--6")
NO_NAMES = ("", "A", "abcdefghi", "a1", "1", "*", "-", "a;", "a,b")


def desk(*rows, most=4):
    made = Desk(most)
    for row in rows:
        made.say(row)
    return made


def told_of(made, names="abcde"):
    """All that a desk tells of its worlds, without trying an event."""
    rows = [f"{word} {name}" for name in names for word in ("holds", "both", "run")]
    answers = []
    for row in rows:
        try:
            answers.append(made.say(f"{row} -" if row.startswith("run") else row))
        except NoName:
            answers.append(None)
    return len(made), answers


class Rows(unittest.TestCase):

    def test_world(self):
        made = Desk()
        self.assertEqual(made.say(f"world a {SIX}"), "ok")
        self.assertEqual(len(made), 1)
        self.assertEqual((made.say("holds a"), made.say("both a"), made.say("run a -")), ("-", "no", "0"))
        self.assertEqual(made.say("do a wait 1"), "-")

    def test_names_of_worlds(self):
        made = Desk(9)
        for name in ("a", "abcdefgh", "one", "two", "world", "do", "c", "l", "r"):
            self.assertEqual(made.say(f"world {name} {SIX}"), "ok")
            self.assertEqual(made.say(f"do {name} wait 1"), "-")
        self.assertEqual(len(made), 9)

    def test_what_the_world_is_made_of(self):
        made = desk(f"world a {SIX}")
        self.assertEqual(made.say("do a find c"), "find c one #1; find c two #1")
        self.assertEqual(made.say("do a hand 0"), "find c two #1; offer one c 2 #1")
        self.assertEqual(made.say("do a hand 0"), "offer one c 2 #1; offer two c 1 #1")
        for name in ("d", "e"):
            made.say(f"do a find {name}")
        refused(self, NoName, made.say, "do a find f")
        self.assertEqual(made.say("run a lose 0; lose 0; lose 0; lose 0; lose 0; lose 0; find c; shut r; hand 0"), "15")
        self.assertEqual(made.say("do a lose 0"), "-")
        refused(self, NoName, made.say, "do a shut q")
        for number in range(1, 7):
            keeper, other = ("one", "two") if number in (2, 4, 6) else ("two", "one")
            self.assertEqual(made.say(f"do a give {keeper} {number}"), f"give {keeper} {other} {number}")
            made.say("do a lose 0")
        for number in (0, 7):
            refused(self, NoNumber, made.say, f"do a give two {number}")

    def test_its_settings(self):
        made = desk("world a 40 7 3 12 19 5")
        self.assertEqual(made.say(f"run a {LEND}; wait 6"), "6")
        self.assertEqual(made.say("holds a"), "2:c")
        made.say("do a wait 1")
        self.assertEqual(made.say("holds a"), "-")
        caught = refused(self, NoClock, made.say, "do a lag c 4")
        self.assertEqual((caught.asked, caught.slack), (4, 3))

    def test_do(self):
        made = desk(f"world a {SIX}")
        for event, answer in (
            ("wait 5", "-"), ("lag c -2", "-"), ("find c", "find c one #1; find c two #1"), ("lose 1", "find c one #1"),
            ("twice 0", "find c one #1; find c one #1"), ("hand 0", "find c one #1; offer one c 2 #1"), ("lose 0", "offer one c 2 #1"),
            ("hand 0", "want c one 2 #2; want c two 2 #2"), ("hand 0", "want c two 2 #2; grant one c 2 #2; told one two 2"),
            ("hand 0", "grant one c 2 #2; told one two 2"), ("hand 0", "told one two 2"), ("hand 0", "seen two one 2"),
            ("hand 0", "-"), ("renew c", "renew c one 2 #3"), ("lose 0", "-"), ("free c", "free c one 2"), ("lose 0", "-"),
            ("stop two", "-"), ("alone one", "-"), ("start two", "back two one #1"), ("again two", "back two one #1; back two one #1"),
            ("lose 0", "back two one #1"), ("hand 0", "books one two #1"), ("hand 0", "-"), ("shut r", "-"), ("open r", "-"),
        ):
            self.assertEqual(made.say(f"do a {event}"), answer)

    def test_run(self):
        made = desk(f"world a {SIX}")
        self.assertEqual(made.say("run a -"), "0")
        self.assertEqual(made.say("run a wait 1"), "1")
        self.assertEqual(made.say("run a wait 1; wait 2; find c"), "4")
        self.assertEqual(made.say("run a -"), "4")
        self.assertEqual(made.say("do a wait 1"), "find c one #1; find c two #1")
        self.assertEqual(made.say("run a -"), "5")

    def test_holds(self):
        made = desk(f"world a {SIX}")
        made.say(f"run a {LEND}")
        self.assertEqual(made.say("holds a"), "2:c")
        made.say("run a lose 0; lose 0; lose 0; find e; hand 1; hand 1; hand 2; hand 2")
        self.assertEqual(made.say("holds a"), "1:e 2:c")
        made.say("do a wait 20")
        self.assertEqual(made.say("holds a"), "-")

    def test_both(self):
        made = desk("world a 60 20 2 7 28 30")
        made.say("run a find d; hand 1; hand 1; hand 2; hand 2; free d; hand 3; lose 0; lose 0; lose 0")
        self.assertEqual(made.say("both a"), "no")
        self.assertEqual(made.say(f"run a {BROKEN}"), "26")
        self.assertEqual((made.say("holds a"), made.say("both a")), ("1:c 1:d", "yes"))
        made.say("do a wait 100")
        self.assertEqual((made.say("holds a"), made.say("both a")), ("-", "yes"))

    def test_paper(self):
        made = Desk()
        for row, answer in (
            (SIX, "safe 0 0"), ("60 20 2 9 30 0", "safe 1 2"), ("60 20 2 7 28 30", "broken"), ("60 20 2 8 27 30", "broken"),
            ("1 1 0 0 1 0", "safe 0 0"), ("1 1 0 0 0 0", "broken"), ("999999 999999 9999 999999 999999 999999", "broken"),
            ("999999 1 0 999999 999999 999999", "safe 999999 999998"),
        ):
            self.assertEqual(made.say(f"paper {row}"), answer)
        self.assertEqual(len(made), 0)

    def test_gone(self):
        made = desk(f"world a {SIX}", f"world b {SIX}")
        self.assertEqual(made.say("gone a"), "ok")
        self.assertEqual(len(made), 1)
        refused(self, NoName, made.say, "holds a")
        self.assertEqual(refused(self, NoName, made.say, "gone a").name, "a")
        self.assertEqual(made.say("gone b"), "ok")
        self.assertEqual(len(made), 0)

    def test_in_the_place_of_another(self):
        made = desk(f"world a {SIX}", f"run a {LEND}", most=1)
        self.assertEqual(made.say("world a 40 7 3 12 19 5"), "ok")
        self.assertEqual((len(made), made.say("holds a"), made.say("run a -")), (1, "-", "0"))
        self.assertEqual(made.say(f"run a {LEND}; wait 6"), "6")
        self.assertEqual(made.say("holds a"), "2:c")
        self.assertEqual((made.say("run a wait 1"), made.say("holds a")), ("7", "-"))

    def test_by_name(self):
        made = Desk(most=2)
        self.assertEqual(made.say(row=f"world a {SIX}"), "ok")

    def test_its_truth_is_that_of_its_len(self):
        made = Desk()
        self.assertIs(bool(made), False)
        made.say(f"world a {SIX}")
        self.assertIs(bool(made), True)
        self.assertIs(made == 1, False)
        self.assertIs(made == Desk(), False)


class NoRows(unittest.TestCase):

    def setUp(self):
        self.made = desk(f"world a {SIX}", f"run a {LEND}")

    def assert_no_row(self, row):
        before = told_of(self.made)
        with self.subTest(row=row):
            refused(self, NoRow, self.made.say, row)
            self.assertEqual(told_of(self.made), before)

    def test_any_things(self):
        for thing in THINGS:
            self.assert_no_row(thing)
            self.assert_no_row((thing,))
            self.assert_no_row(["holds a"])

    def test_no_such_rows(self):
        for row in (
            "", " ", "-", "a", "world", "do", "run", "holds", "both", "paper", "gone", "World a " + SIX, "letters a", "now a",
            "holders a 2", "find c", "ok", "help", "hold a", "holds", "holdsa", "worlds", "len", "tried a",
        ):
            self.assert_no_row(row)

    def test_words_too_many_and_too_few(self):
        for row in (
            "world a", "world a 60 20 2 8 28", f"world a {SIX} 1", f"world {SIX}", f"world a b {SIX}", "do a", "run a",
            "do find c", "run wait 1", "run -", "holds a b", "holds a 2", "both a a", "gone a b", "paper 60 20 2 8 28",
            f"paper {SIX} 30", f"paper a {SIX}", "paper a", "paper -",
        ):
            self.assert_no_row(row)

    def test_blanks(self):
        for row in (f"world a {SIX}", "do a wait 1", "run a wait 1; wait 1", "run a -", "holds a", "both a", f"paper {SIX}", "gone a"):
            for wrong in (f" {row}", f"{row} ", f"  {row}", f"\t{row}", f"{row}\n"):
                self.assert_no_row(wrong)
            for at, sign in enumerate(row):
                if sign == " ":
                    self.assert_no_row(row[:at] + " " + row[at:])
                    self.assert_no_row(row[:at] + row[at + 1:])
                    self.assert_no_row(row[:at] + "\t" + row[at + 1:])

    def test_no_names(self):
        for name in NO_NAMES:
            for row in (f"world {name} {SIX}", f"do {name} wait 1", f"run {name} -", f"holds {name}", f"both {name}", f"gone {name}"):
                self.assert_no_row(row)

    def test_no_numbers(self):
        for number in NO_NUMBERS:
            for at in range(6):
                words = SIX.split(" ")
                words[at] = number
                row = " ".join(words)
                self.assert_no_row(f"world a {row}")
                self.assert_no_row(f"paper {row}")

    def test_no_events(self):
        for event in (
            "", "-", "wait", "wait 0", "wait 01", "wait 1;", "wait 1; wait 1", "find", "find C", "seek c", "hand", "hand +1",
            "lag c", "lag c -0", "give one", "hand 1000000000000", "wait one", "find c d",
        ):
            self.assert_no_row(f"do a {event}")
            self.assert_no_row(f"do zzz {event}")

    def test_no_runs(self):
        for run in ("", "--", "wait 0", "wait 1;", "wait 1; ", "; wait 1", "wait 1;wait 1", "wait 1; wait 0", "wait 1; -", "-; wait 1"):
            self.assert_no_row(f"run a {run}")
            self.assert_no_row(f"run zzz {run}")

    def test_ahead_of_all_others(self):
        full = desk(f"world a {SIX}", most=1)
        for row in ("world b 0 0 0 0 0 x", "do b hand x", "run b find 1", "holds B", "world B 0 0 0 0 0 0", "paper 0 0 0 0 0 x"):
            refused(self, NoRow, full.say, row)


class Refused(unittest.TestCase):

    def test_no_world_of_this_name(self):
        made = desk(f"world a {SIX}")
        for name in ("b", "one", "zzzzzzzz", "c"):
            for row in (f"do {name} wait 1", f"do {name} hand 99", f"run {name} -", f"run {name} hand 99", f"holds {name}",
                        f"both {name}", f"gone {name}"):
                self.assertEqual(refused(self, NoName, made.say, row).name, name)
        self.assertEqual(made.say("run a -"), "0")

    def test_settings(self):
        full = desk(f"world a {SIX}", f"run a {LEND}", most=1)
        for numbers, name in (
            ("0 0 0 0 0 0", "lease"), ("60 61 2 8 28 30", "lead"), ("60 20 10000 8 28 30", "slack"), ("60 20 2 -8 28 30", "grace"),
            ("60 20 2 8 1000000 30", "wait"), ("60 20 2 8 28 -1", "rest"), ("999999999999 20 2 8 28 30", "lease"),
            ("-60 20 2 8 28 30", "lease"), ("60 20 -2 8 28 30", "slack"), ("60 20 2 8 28 -999999999999", "rest"),
        ):
            for row in (f"world a {numbers}", f"world b {numbers}", f"paper {numbers}"):
                self.assertEqual(refused(self, NoSetting, full.say, row).name, name)
        # The world that stood there stands.
        self.assertEqual((full.say("holds a"), full.say("run a -"), len(full)), ("2:c", "5", 1))

    def test_a_refused_do(self):
        made = desk(f"world a {SIX}", f"run a {LEND}")
        for tried, (event, error, fields) in enumerate((
            ("find zzz", NoName, {"name": "zzz"}), ("find one", NoName, {"name": "one"}), ("shut c", NoName, {"name": "c"}),
            ("hand 3", NoPlace, {"place": 3, "many": 3}), ("lose -1", NoPlace, {"place": -1, "many": 3}),
            ("lag c 3", NoClock, {"asked": 3, "slack": 2}), ("give one 7", NoNumber, {"number": 7}),
            ("find c", NoDeed, {"word": "find"}), ("start one", NoDeed, {"word": "start"}), ("alone two", NoDeed, {"word": "alone"}),
            ("open r", NoDeed, {"word": "open"}), ("give one 2", NoDeed, {"word": "give"}), ("renew d", NoDeed, {"word": "renew"}),
        ), start=6):
            caught = refused(self, error, made.say, f"do a {event}")
            self.assertEqual({name: getattr(caught, name) for name in fields}, fields)
            self.assertEqual((made.say("run a -"), made.say("holds a")), (str(tried), "2:c"))

    def test_a_refused_run(self):
        made = desk(f"world a {SIX}")
        self.assertEqual(refused(self, NoRun, made.say, f"run a {LEND}; hand 99; wait 50").at, 5)
        self.assertEqual((made.say("run a -"), made.say("holds a")), ("6", "2:c"))
        self.assertEqual(refused(self, NoRun, made.say, "run a start one; wait 50").at, 0)
        self.assertEqual((made.say("run a -"), made.say("holds a")), ("7", "2:c"))
        self.assertEqual(refused(self, NoRun, made.say, "run a wait 1; find zzz").at, 1)
        self.assertEqual((made.say("run a -"), made.say("holds a")), ("9", "2:c"))

    def test_too_many(self):
        for most in range(1, 10):
            made = Desk(most)
            for name in "abcdefghi"[:most]:
                self.assertEqual(made.say(f"world {name} {SIX}"), "ok")
            self.assertEqual(len(made), most)
            self.assertEqual(refused(self, TooMany, made.say, f"world z {SIX}").most, most)
            self.assertEqual(len(made), most)
            refused(self, NoName, made.say, "holds z")
            self.assertEqual(made.say(f"world a {SIX}"), "ok")
            made.say("gone a")
            self.assertEqual(made.say(f"world z {SIX}"), "ok")
            self.assertEqual(refused(self, TooMany, made.say, f"world a {SIX}").most, most)
            self.assertEqual((len(made), made.say("holds z")), (most, "-"))

    def test_four_if_nothing_is_told(self):
        made = desk(*[f"world {name} {SIX}" for name in "abcd"])
        self.assertEqual(refused(self, TooMany, Desk.say, made, f"world e {SIX}").most, 4)
        plain = Desk()
        for name in "abcd":
            plain.say(f"world {name} {SIX}")
        self.assertEqual(refused(self, TooMany, plain.say, f"world e {SIX}").most, 4)


class ByTurns(unittest.TestCase):
    """Point 2: two desks, and two worlds of one desk, share nothing."""

    def some_row(self, source):
        name = source.choice("abc")
        event = source.choice((
            "wait 1", "wait 7", "find c", "find d", "hand 0", "hand 1", "hand 2", "lose 0", "twice 1", "renew c", "free c", "stop one",
            "start one", "alone two", "give one 2", "again one", "lag c 2", "lag one -2", "lag c 3", "shut r", "open r",
        ))
        return source.choice((
            f"world {name} {SIX}", f"do {name} {event}", f"do {name} {event}", f"do {name} {event}", f"run {name} {event}; {event}",
            f"run {name} -", f"holds {name}", f"both {name}", f"gone {name}", f"paper {SIX}", "no row",
        ))

    def answer(self, made, row):
        try:
            return made.say(row)
        except Exception as error:
            return type(error), vars(error)

    def test_desks(self):
        for seed in range(8):
            sources = [random.Random(f"{seed} {place}") for place in range(2)]
            desks, said = [Desk(2), Desk(2)], [[], []]
            for step in range(200):
                for source, made, rows in zip(sources, desks, said):
                    row = self.some_row(source)
                    rows.append((row, self.answer(made, row)))
            for rows in said:
                alone = Desk(2)
                self.assertEqual([(row, self.answer(alone, row)) for row, answer in rows], rows)

    def test_worlds_of_one_desk(self):
        made = desk(f"world a {SIX}", f"world b {SIX}")
        for event in LEND.split("; "):
            made.say(f"do a {event}")
            self.assertEqual(made.say("do b wait 1"), "-")
        self.assertEqual((made.say("holds a"), made.say("holds b")), ("2:c", "-"))


if __name__ == "__main__":
    unittest.main()
