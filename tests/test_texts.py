"""Point 27: events, runs and letters written, events and runs read."""

import random
import unittest

from leasepair.errors import NoText
from leasepair.letters import Letter
from leasepair.texts import event_read, event_text, letter_text, run_read, run_text

from tests.helpers import refused
from tests.worldly import world

TWELVE = 999999999999
WRITTEN = {
    ("wait", 1): "wait 1",
    ("wait", 999999): "wait 999999",
    ("lag", "c", -2): "lag c -2",
    ("lag", "one", 0): "lag one 0",
    ("lag", "abcdefgh", TWELVE): "lag abcdefgh 999999999999",
    ("lag", "c", -TWELVE): "lag c -999999999999",
    ("find", "c"): "find c",
    ("renew", "d"): "renew d",
    ("free", "e"): "free e",
    ("spoil", "zzz"): "spoil zzz",
    ("hand", 0): "hand 0",
    ("hand", -1): "hand -1",
    ("lose", 10): "lose 10",
    ("twice", 100): "twice 100",
    ("twice", TWELVE): "twice 999999999999",
    ("shut", "r"): "shut r",
    ("open", "r"): "open r",
    ("stop", "one"): "stop one",
    ("start", "two"): "start two",
    ("alone", "one"): "alone one",
    ("give", "one", 7): "give one 7",
    ("give", "find", -7): "give find -7",
    ("again", "two"): "again two",
    ("find", "find"): "find find",
}
NO_EVENTS = (
    "", " ", "  ", "-", "*", ";", "; ", "wait", "wait ", "wait 0", "wait -1", "wait 1000000", "wait 01", "wait +1", "wait 1 1",
    "wait 1.0", "wait one", "wait 1;", "wait  1", " wait 1", "wait 1 ", "wait -0", "wait 1_0", "wait 0x1", "wait ''", "wait 1e3",
    "find", "find ", "find c ", " find c", "find  c", "find c d", "find C", "find 1", "find c1", "find abcdefghi", "find *",
    "find -", "find ''", "Find c", "FIND c", "seek c", "finds c", "find,c", "find;c", "('find', 'c')", "find\tc", "find\nc",
    "find c\n", "lag c", "lag c 00", "lag c -0", "lag c +2", "lag c 02", "lag c -02", "lag c --2", "lag c - 2", "lag c 2 ",
    "lag  c 2", "lag c  2", "lag 2 c", "lag 2", "lag c d", "lag c 1000000000000", "lag c -1000000000000", "lag c 2 2", "lag c -",
    "hand", "hand c", "hand 00", "hand -0", "hand -00", "hand 1000000000000", "hand " + "9" * 60, "hand " + "9" * 1990, "hand 1 1",
    "lose one", "twice", "twice +0", "shut", "open", "open 1", "stop 1", "start", "alone", "alone one two", "give one",
    "give one 07", "give 7 one", "give one seven", "again", "again one 1", "world c", "do find c", "1", "7 find", "~" * 2000,
)


class Written(unittest.TestCase):

    def test_events(self):
        for event, text in WRITTEN.items():
            self.assertEqual(event_text(event), text)
        self.assertEqual(event_text(event=("lag", "c", -2)), "lag c -2")

    def test_runs(self):
        for events in ((), []):
            self.assertEqual(run_text(events), "-")
        for events in ((("find", "c"),), [("find", "c")]):
            self.assertEqual(run_text(events), "find c")
        events = (("find", "c"), ("lag", "c", -2), ("hand", 0))
        self.assertEqual(run_text(events), "find c; lag c -2; hand 0")
        self.assertEqual(run_text(events=list(events)), "find c; lag c -2; hand 0")

    def test_letters(self):
        for letter, text in (
            (Letter("offer", "one", "c", mark=1, number=7), "offer one c 7 #1"),
            (Letter("find", "c", mark=3), "find c * #3"),
            (Letter("find", "c"), "find c *"),
            (Letter("find", "c", "one", mark=3), "find c one #3"),
            (Letter("want", "c", mark=4, number=0, who="one"), "want c * 0 #4"),
            (Letter("grant", "two", "c", mark=4, number=999999, span=20, turn=1, link="l", via=("r",)), "grant two c 999999 #4"),
            (Letter("deny", "one", "d", mark=TWELVE, number=1), "deny one d 1 #999999999999"),
            (Letter("renew", "c", "two", mark=5, number=3), "renew c two 3 #5"),
            (Letter("free", "c", "one", number=3, turn=2, who="one"), "free c one 3"),
            (Letter("spoil", "c", "one", number=3, turn=2, who="one"), "spoil c one 3"),
            (Letter("told", "one", "two", number=3, count=1, who="c", end=5), "told one two 3"),
            (Letter("seen", "two", "one", number=3, count=1, end=-5), "seen two one 3"),
            (Letter("give", "one", "two", number=3, count=1), "give one two 3"),
            (Letter("back", "one", "two", mark=2), "back one two #2"),
            (Letter("books", "two", "one", mark=2, rows=((1, 0, True, "", None),)), "books two one #2"),
        ):
            self.assertEqual(letter_text(letter), text)
        self.assertEqual(letter_text(letter=Letter("find", "c")), "find c *")

    def test_letters_under_way(self):
        made = world()
        made.run((("find", "c"), ("hand", 0)))
        self.assertEqual([letter_text(letter) for letter in made.letters()], ["find c two #1", "offer one c 2 #1"])


class Read(unittest.TestCase):

    def test_events(self):
        for event, text in WRITTEN.items():
            read = event_read(text)
            self.assertEqual((read, type(read)), (event, tuple))
            self.assertEqual([type(part) for part in read], [type(part) for part in event])
        self.assertEqual(event_read(text="wait 7"), ("wait", 7))

    def test_no_events(self):
        for text in NO_EVENTS:
            with self.subTest(text=text):
                refused(self, NoText, event_read, text)

    def test_runs(self):
        for text, events in (
            ("-", []), ("find c", [("find", "c")]), ("find c; hand 0", [("find", "c"), ("hand", 0)]),
            ("wait 1; wait 1; lag c -2", [("wait", 1), ("wait", 1), ("lag", "c", -2)]),
        ):
            read = run_read(text)
            self.assertEqual((read, type(read)), (events, list))
        self.assertEqual(run_read(text="-"), [])

    def test_no_runs(self):
        for text in NO_EVENTS:
            if text == "-":
                continue
            with self.subTest(text=text):
                refused(self, NoText, run_read, text)
                refused(self, NoText, run_read, f"{text}; find c")
                refused(self, NoText, run_read, f"find c; {text}")
                refused(self, NoText, run_read, f"find c; {text}; hand 0")

    def test_other_ends_and_gaps(self):
        for text in (
            "", " ", "; ", ";", "find c;", "find c; ", "; find c", ";find c", "find c;hand 0", "find c ;hand 0", "find c ; hand 0",
            "find c;  hand 0", "find c; ; hand 0", "find c;; hand 0", "find c, hand 0", "find c hand 0", "-; find c", "find c; -",
            "- ", " -", "--", "-; -", "[]", "()", "find c; hand 00",
        ):
            with self.subTest(text=text):
                refused(self, NoText, run_read, text)

    def test_each_run_is_the_askers_own(self):
        first = run_read("find c")
        first.append("more")
        self.assertEqual(run_read("find c"), [("find", "c")])
        first = run_read("-")
        first.append("more")
        self.assertEqual(run_read("-"), [])


class BothWays(unittest.TestCase):

    def some_event(self, source):
        name = "".join(source.choice("abcxyz") for step in range(source.randint(1, 8)))
        whole = source.choice((0, 1, -1, TWELVE, -TWELVE, source.randint(-TWELVE, TWELVE), source.randint(-99, 99)))
        return source.choice((
            ("wait", source.choice((1, 999999, source.randint(1, 999999)))), ("lag", name, whole), ("give", name, whole),
            (source.choice(("hand", "lose", "twice")), whole),
            (source.choice(("find", "renew", "free", "spoil", "shut", "open", "stop", "start", "alone", "again")), name),
        ))

    def test_what_is_written_is_read_to_the_same(self):
        source = random.Random(27)
        for step in range(500):
            events = [self.some_event(source) for place in range(source.randint(0, 6))]
            before = list(events)
            self.assertEqual(run_read(run_text(events)), events)
            self.assertEqual(run_read(run_text(tuple(events))), events)
            self.assertEqual(events, before)
            for event in events:
                self.assertEqual(event_read(event_text(event)), event)

    def test_what_is_read_is_written_to_the_same(self):
        """A text with a sign otherwise, too many or too few is refused, or is the text of another event."""
        source = random.Random(28)
        refusals = 0
        for step in range(3000):
            text = event_text(self.some_event(source))
            at = source.randrange(len(text) + 1)
            text = text[:at] + source.choice(("", " ", "0", "1", "-", "+", "a", "A", ";", "; ", "_")) + text[at + source.choice((0, 1)):]
            for read, write in ((event_read, event_text), (run_read, run_text)):
                try:
                    self.assertEqual(write(read(text)), text)
                except NoText:
                    refusals += 1
        self.assertGreater(refusals, 1000)


if __name__ == "__main__":
    unittest.main()
