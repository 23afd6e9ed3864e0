"""Points 21 and 22: each event as it is done, and the letters under way behind it."""

import unittest

from leasepair.errors import NoDeed
from leasepair.letters import Letter

from tests.helpers import refused
from tests.worldly import come_back, hand, lend, lose_all, renew, small, tell, told_of, world

PATH = {"link": "l", "via": ("r", "q")}
KEEPERS = ("one", "two")


def to_both(kind, sender, **fields):
    return [Letter(kind, sender, keeper, **fields) for keeper in KEEPERS]


class Moments(unittest.TestCase):

    def test_wait(self):
        made = world()
        self.assertIsNone(made.do(("wait", 1)))
        self.assertEqual(made.now(), 1)
        made.do(("wait", 999999))
        self.assertEqual(made.now(), 1000000)
        self.assertEqual([made.reading(name) for name in ("c", "one")], [1000000] * 2)
        self.assertEqual(made.letters(), [])

    def test_lag(self):
        made = world()
        made.do(("wait", 10))
        self.assertIsNone(made.do(("lag", "c", 2)))
        made.do(("lag", "one", -2))
        self.assertEqual([made.reading(name) for name in ("c", "d", "one", "two")], [12, 10, 10, 10])
        made.do(("wait", 1))
        self.assertEqual([made.reading(name) for name in ("c", "d", "one", "two")], [13, 11, 10, 11])
        made.do(("wait", 4))
        self.assertEqual([made.reading(name) for name in ("c", "d", "one", "two")], [17, 15, 13, 15])
        made.do(("lag", "c", -1))
        self.assertEqual(made.reading("c"), 17)
        made.do(("wait", 4))
        self.assertEqual(made.reading("c"), 18)
        made.do(("lag", "c", 0))
        self.assertEqual(made.reading("c"), 19)

    def test_lag_of_a_stopped_keeper(self):
        made = world()
        made.do(("stop", "two"))
        made.do(("lag", "two", 2))
        self.assertEqual(made.reading("two"), 2)
        made.do(("wait", 3))
        self.assertEqual(made.reading("two"), 5)

    def test_deeds_are_done_at_their_own_readings(self):
        made = small()
        made.do(("wait", 100))
        made.do(("lag", "c", 2))
        made.do(("lag", "two", 1))
        lend(made, "c", "two")
        self.assertEqual(made.letters()[-1], Letter("told", "two", "one", number=1, who="c", end=121))
        # By its own clock c holds it to 102 and 20.
        self.assertEqual(made.holds(), [(1, "c", 124, 126, 127)])
        made.do(("wait", 19))
        self.assertEqual(made.state("c"), "holding")
        made.do(("wait", 1))
        self.assertEqual(made.state("c"), "idle")


class Finding(unittest.TestCase):

    def test_step_by_step(self):
        made = world()
        self.assertIsNone(made.do(("find", "c")))
        self.assertEqual(made.state("c"), "asked")
        find = to_both("find", "c", mark=1)
        self.assertEqual(made.letters(), find)
        self.assertIsNone(made.do(("hand", 0)))
        offer = Letter("offer", "one", "c", mark=1, number=2, **PATH)
        self.assertEqual(made.letters(), [find[1], offer])
        made.do(("hand", 1))
        self.assertEqual(made.state("c"), "wanting")
        want = to_both("want", "c", mark=2, number=2, who="one")
        self.assertEqual(made.letters(), [find[1]] + want)
        made.do(("hand", 1))
        grant = Letter("grant", "one", "c", mark=2, number=2, span=20, turn=1, **PATH)
        told = Letter("told", "one", "two", number=2, who="c", end=20)
        self.assertEqual(made.letters(), [find[1], want[1], grant, told])
        self.assertEqual(made.holders(2), [])
        made.do(("hand", 2))
        self.assertEqual((made.state("c"), made.holders(2)), ("holding", ["c"]))
        self.assertEqual(made.letters(), [find[1], want[1], told])
        made.do(("hand", 2))
        seen = Letter("seen", "two", "one", number=2, end=20)
        self.assertEqual(made.letters(), [find[1], want[1], seen])
        made.do(("hand", 2))
        # A want whose who is another one is passed over; a find is answered though it comes late.
        made.do(("hand", 1))
        self.assertEqual(made.letters(), [find[1]])
        made.do(("hand", 0))
        self.assertEqual(made.letters(), [Letter("offer", "two", "c", mark=1, number=1, **PATH)])
        made.do(("hand", 0))
        self.assertEqual((made.letters(), made.state("c")), ([], "holding"))

    def test_a_link_without_relays(self):
        made = world()
        made.do(("find", "e"))
        self.assertEqual(made.letters(), to_both("find", "e", mark=1))
        made.do(("hand", 1))
        self.assertEqual(made.letters()[1], Letter("offer", "two", "e", mark=1, number=10, link="k"))
        made.do(("hand", 1))
        made.do(("hand", 2))
        self.assertEqual(made.letters()[2], Letter("grant", "two", "e", mark=2, number=10, span=20, turn=1, link="k"))
        made.do(("hand", 2))
        self.assertEqual(made.holders(10), ["e"])

    def test_an_empty_pool(self):
        made = world()
        made.do(("find", "f"))
        made.do(("hand", 0))
        made.do(("hand", 0))
        self.assertEqual((made.letters(), made.state("f")), ([], "asked"))

    def test_relays_in_their_order(self):
        for names in (("r",), ("q", "r"), ("r", "q"), ("z", "a", "r", "q")):
            made = world(relays=tuple((name, "l") for name in names))
            made.do(("find", "c"))
            made.do(("hand", 0))
            self.assertEqual(made.letters()[1], Letter("offer", "one", "c", mark=1, number=2, link="l", via=names))
            made.do(("hand", 1))
            self.assertEqual(made.state("c"), "wanting")

    def test_again_and_again(self):
        made = world()
        made.do(("find", "c"))
        made.do(("find", "c"))
        self.assertEqual(made.letters(), to_both("find", "c", mark=1) + to_both("find", "c", mark=2))
        # The first one doesn't wait any more.
        made.do(("hand", 0))
        made.do(("hand", 3))
        self.assertEqual((made.state("c"), len(made.letters())), ("asked", 3))


class Holding(unittest.TestCase):

    def test_renew(self):
        made = world()
        lend(made, "c", "one")
        tell(made, "one", "two")
        lose_all(made)
        made.do(("wait", 10))
        self.assertIsNone(made.do(("renew", "c")))
        self.assertEqual(made.letters(), [Letter("renew", "c", "one", mark=3, number=2)])
        made.do(("hand", 0))
        self.assertEqual(made.letters(), [
            Letter("grant", "one", "c", mark=3, number=2, span=30, turn=2, **PATH),
            Letter("told", "one", "two", number=2, who="c", end=40),
        ])
        made.do(("hand", 0))
        self.assertEqual(made.holds(), [(2, "c", 42, 46, 46)])

    def test_renew_by_both(self):
        made = world()
        lend(made, "c", "one")
        lose_all(made)
        made.do(("wait", 17))
        made.do(("renew", "c"))
        self.assertEqual(made.letters(), [Letter("renew", "c", "one", mark=3, number=2)])
        made.do(("wait", 1))
        made.do(("renew", "c"))
        self.assertEqual(made.letters()[1:], to_both("renew", "c", mark=4, number=2))

    def test_free(self):
        made = world()
        lend(made, "c", "one")
        lose_all(made)
        self.assertIsNone(made.do(("free", "c")))
        self.assertEqual((made.state("c"), made.holders(2)), ("idle", []))
        self.assertEqual(made.letters(), [Letter("free", "c", "one", number=2, turn=1, who="one")])
        made.do(("hand", 0))
        self.assertEqual(made.letters(), [])
        lend(made, "d", "one")
        self.assertEqual(made.holders(2), ["d"])

    def test_a_free_that_is_lost(self):
        made = world()
        lend(made, "c", "one")
        made.do(("free", "c"))
        lose_all(made)
        lend(made, "d", "one")
        self.assertEqual((made.holders(2), made.holders(4)), ([], ["d"]))

    def test_spoil(self):
        made = small(numbers=2)
        lend(made, "c", "one")
        made.do(("spoil", "c"))
        self.assertEqual(made.letters()[-1], Letter("spoil", "c", "one", number=2, turn=1, who="one"))
        hand(made, "spoil", "c", "one")
        lose_all(made)
        made.do(("wait", 29))
        made.do(("find", "d"))
        made.do(("hand", 0))
        self.assertEqual(made.letters(), [Letter("find", "d", "two", mark=1)])
        made.do(("wait", 1))
        lend(made, "d", "one")
        self.assertEqual(made.holders(2), ["d"])

    def test_denied(self):
        made = world()
        made.do(("find", "c"))
        made.do(("find", "d"))
        for sender in ("c", "d"):
            hand(made, "find", sender, "one")
            hand(made, "offer", "one", sender)
        hand(made, "want", "c", "one")
        hand(made, "want", "d", "one")
        self.assertEqual(made.letters()[-1], Letter("deny", "one", "d", mark=2, number=2, **PATH))
        hand(made, "deny", "one", "d")
        self.assertEqual(made.state("d"), "idle")


class UnderWay(unittest.TestCase):

    def test_lost(self):
        made = world()
        made.do(("find", "c"))
        made.do(("find", "d"))
        before = made.letters()
        self.assertIsNone(made.do(("lose", 1)))
        self.assertEqual(made.letters(), before[:1] + before[2:])
        made.do(("lose", 2))
        self.assertEqual(made.letters(), before[:1] + before[2:3])
        self.assertEqual((made.state("c"), made.state("d")), ("asked", "asked"))

    def test_doubled(self):
        made = world()
        made.do(("find", "c"))
        before = made.letters()
        self.assertIsNone(made.do(("twice", 0)))
        self.assertEqual(made.letters(), before + before[:1])
        made.do(("twice", 2))
        self.assertEqual(made.letters(), before + before[:1] * 2)
        made.do(("hand", 0))
        made.do(("hand", 1))
        offer = Letter("offer", "one", "c", mark=1, number=2, **PATH)
        self.assertEqual(made.letters(), [before[1], before[0], offer, offer])
        made.do(("hand", 2))
        made.do(("hand", 2))
        self.assertEqual(made.letters(), [before[1], before[0]] + to_both("want", "c", mark=2, number=2, who="one"))

    def test_a_doubled_want_is_lent_anew(self):
        made = world()
        made.do(("find", "c"))
        made.do(("hand", 0))
        made.do(("hand", 1))
        made.do(("twice", 1))
        made.do(("hand", 1))
        made.do(("wait", 5))
        made.do(("hand", 2))
        self.assertEqual([(letter.kind, letter.span, letter.turn, letter.end) for letter in made.letters()[2:]], [
            ("grant", 20, 1, None), ("told", 0, 0, 20), ("grant", 20, 2, None), ("told", 0, 0, 25),
        ])
        # The end is reckoned from when the want was sent; the other grant is no answer any more.
        made.do(("hand", 4))
        made.do(("hand", 2))
        self.assertEqual(made.holds()[0][:3], (2, "c", 22))

    def test_late(self):
        made = world()
        made.do(("find", "c"))
        made.do(("hand", 0))
        made.do(("hand", 1))
        made.do(("hand", 1))
        made.do(("wait", 20))
        hand(made, "grant", "one", "c")
        self.assertEqual((made.state("c"), made.holders(2)), ("idle", []))

    def test_just_in_time(self):
        made = world()
        made.do(("find", "c"))
        made.do(("hand", 0))
        made.do(("hand", 1))
        made.do(("hand", 1))
        made.do(("wait", 19))
        hand(made, "grant", "one", "c")
        self.assertEqual((made.state("c"), made.holders(2)), ("holding", ["c"]))
        made.do(("wait", 1))
        self.assertEqual((made.state("c"), made.holders(2)), ("idle", []))

    def test_new_ones_are_behind_all_others(self):
        made = world()
        made.do(("find", "c"))
        made.do(("find", "d"))
        before = made.letters()
        made.do(("hand", 1))
        self.assertEqual(made.letters()[:3], [before[0]] + before[2:])
        self.assertEqual(made.letters()[3], Letter("offer", "two", "c", mark=1, number=1, **PATH))
        made.do(("hand", 0))
        self.assertEqual([letter.kind for letter in made.letters()], ["find", "find", "offer", "offer"])
        made.do(("find", "e"))
        self.assertEqual([letter.sender for letter in made.letters()], ["d", "d", "two", "one", "e", "e"])


class Relaying(unittest.TestCase):

    def test_shut_on_the_way_there(self):
        for name in ("r", "q"):
            made = world()
            self.assertIsNone(made.do(("shut", name)))
            made.do(("find", "c"))
            self.assertEqual(len(made.letters()), 2)
            made.do(("hand", 0))
            self.assertEqual(made.letters(), [Letter("find", "c", "two", mark=1)])
            self.assertIsNone(made.do(("open", name)))
            made.do(("hand", 0))
            self.assertEqual([letter.kind for letter in made.letters()], ["offer"])

    def test_shut_on_the_way_back(self):
        for name in ("r", "q"):
            made = world()
            made.do(("find", "c"))
            made.do(("hand", 0))
            made.do(("hand", 0))
            made.do(("shut", name))
            made.do(("hand", 0))
            self.assertEqual((made.state("c"), len(made.letters())), ("asked", 1))
            made.do(("open", name))
            made.do(("hand", 0))
            self.assertEqual((made.state("c"), len(made.letters())), ("wanting", 2))

    def test_a_letter_sent_while_it_was_open_is_lost_too(self):
        made = world()
        made.do(("find", "c"))
        made.do(("shut", "q"))
        made.do(("hand", 0))
        made.do(("open", "q"))
        self.assertEqual(made.letters(), [Letter("find", "c", "two", mark=1)])

    def test_one_of_another_link(self):
        made = world()
        made.do(("shut", "s"))
        lend(made, "c", "one")
        lend(made, "e", "one")
        self.assertEqual((made.holders(2), made.holders(11)), (["c"], ["e"]))
        made.do(("shut", "r"))
        renew(made, "e", "one")

    def test_keepers_write_without_relays(self):
        made = world()
        lend(made, "c", "one")
        for name in ("r", "s", "q"):
            made.do(("shut", name))
        tell(made, "one", "two")
        self.assertEqual(made.holds(), [(2, "c", 22, 26, 46)])


class Keepers(unittest.TestCase):

    def test_stopped(self):
        made = world()
        made.do(("find", "c"))
        self.assertIsNone(made.do(("stop", "one")))
        self.assertEqual(made.state("one"), "stopped")
        self.assertEqual((made.titled(2), made.titled(1)), ([], ["two"]))
        made.do(("hand", 0))
        self.assertEqual(made.letters(), [Letter("find", "c", "two", mark=1)])
        made.do(("stop", "two"))
        made.do(("hand", 0))
        self.assertEqual((made.letters(), made.titled(1)), ([], []))

    def test_letters_of_keepers_to_a_stopped_one(self):
        made = world()
        lend(made, "c", "one")
        made.do(("stop", "two"))
        hand(made, "told", "one", "two")
        self.assertEqual([letter.kind for letter in made.letters()], ["find", "want"])

    def test_answers_of_a_stopped_one_go_on(self):
        made = world()
        made.do(("find", "c"))
        made.do(("hand", 0))
        made.do(("stop", "one"))
        made.do(("hand", 1))
        self.assertEqual(made.state("c"), "wanting")

    def test_started(self):
        made = world()
        made.do(("stop", "one"))
        self.assertIsNone(made.do(("start", "one")))
        self.assertEqual((made.state("one"), made.titled(2)), ("back", []))
        self.assertEqual(made.letters(), [Letter("back", "one", "two", mark=1)])
        made.do(("hand", 0))
        books = made.letters()[0]
        self.assertEqual((books.kind, books.sender, books.receiver, books.mark), ("books", "two", "one", 1))
        self.assertEqual([row[:3] for row in books.rows], [
            (1, 0, True), (2, 0, False), (3, 0, True), (4, 0, False), (5, 0, True), (6, 0, False),
            (10, 0, True), (11, 0, False), (12, 0, True),
        ])
        made.do(("hand", 0))
        self.assertEqual((made.state("one"), made.titled(2), made.letters()), ("paired", ["one"], []))

    def test_it_keeps_its_books(self):
        made = world()
        lend(made, "c", "one")
        lose_all(made)
        made.do(("stop", "one"))
        made.do(("wait", 5))
        come_back(made, "one", "two")
        self.assertEqual(made.holds(), [(2, "c", 22, 26, 31)])
        lend(made, "d", "one")
        self.assertEqual((made.holders(2), made.holders(4)), (["c"], ["d"]))

    def test_alone(self):
        made = world()
        made.do(("stop", "two"))
        self.assertIsNone(made.do(("alone", "one")))
        self.assertEqual((made.state("one"), made.letters()), ("alone", []))
        self.assertEqual([made.titled(number) for number in (1, 2, 10)], [["one"]] * 3)
        made.do(("wait", 27))
        made.do(("find", "c"))
        hand(made, "find", "c", "one")
        self.assertEqual(made.letters()[-1].number, 2)
        made.do(("wait", 1))
        made.do(("find", "c"))
        hand(made, "find", "c", "one")
        self.assertEqual(made.letters()[-1].number, 1)

    def test_alone_by_its_reading(self):
        made = small()
        made.do(("stop", "two"))
        made.do(("lag", "one", 2))
        made.do(("alone", "one"))
        made.do(("wait", 27))
        made.do(("find", "c"))
        made.do(("hand", 0))
        self.assertEqual(len(made.letters()), 1)
        made.do(("wait", 1))
        made.do(("find", "c"))
        made.do(("hand", 1))
        self.assertEqual(made.letters()[-1].kind, "offer")

    def test_one_that_is_alone_is_stopped_and_started(self):
        made = world()
        made.do(("stop", "two"))
        made.do(("alone", "one"))
        made.do(("stop", "one"))
        self.assertEqual((made.state("one"), made.titled(2)), ("stopped", []))
        made.do(("start", "one"))
        self.assertEqual((made.state("one"), made.titled(2), made.letters()), ("alone", ["one"], []))

    def test_back_to_one_that_is_alone(self):
        made = world()
        made.do(("stop", "two"))
        made.do(("alone", "one"))
        come_back(made, "two", "one")
        self.assertEqual((made.state("one"), made.state("two")), ("paired", "paired"))
        self.assertEqual([made.titled(number) for number in (1, 2, 10)], [["one"]] * 3)

    def test_give(self):
        made = world()
        self.assertIsNone(made.do(("give", "one", 2)))
        self.assertEqual(made.letters(), [Letter("give", "one", "two", number=2, count=1)])
        self.assertEqual(made.titled(2), [])
        made.do(("hand", 0))
        self.assertEqual(made.titled(2), ["two"])
        made.do(("give", "two", 10))
        made.do(("hand", 0))
        self.assertEqual(made.titled(10), ["one"])

    def test_give_at_its_reading(self):
        made = small(numbers=2)
        lend(made, "c", "one")
        made.do(("wait", 26))
        self.assertEqual(refused(self, NoDeed, made.do, ("give", "one", 2)).word, "give")
        made.do(("lag", "one", 2))
        made.do(("give", "one", 2))
        self.assertEqual(made.letters()[-1], Letter("give", "one", "two", number=2, count=1))

    def test_again(self):
        made = world()
        self.assertIsNone(made.do(("again", "one")))
        self.assertEqual(made.letters(), [])
        lend(made, "c", "one")
        made.do(("give", "one", 4))
        lose_all(made)
        made.do(("again", "one"))
        self.assertEqual(made.letters(), [
            Letter("told", "one", "two", number=2, who="c", end=20), Letter("give", "one", "two", number=4, count=1),
        ])

    def test_again_of_one_that_is_back(self):
        made = world()
        made.do(("stop", "two"))
        made.do(("start", "two"))
        made.do(("again", "two"))
        self.assertEqual(made.letters(), [Letter("back", "two", "one", mark=1)] * 2)

    def test_again_of_one_that_is_alone(self):
        made = world()
        lend(made, "c", "one")
        lose_all(made)
        made.do(("stop", "two"))
        made.do(("alone", "one"))
        made.do(("again", "one"))
        self.assertEqual(made.letters(), [])

    def test_both_stopped_and_started(self):
        made = world()
        for name in KEEPERS:
            made.do(("stop", name))
        for name in KEEPERS:
            made.do(("start", name))
        self.assertEqual([made.state(name) for name in KEEPERS], ["back", "back"])
        for step in range(4):
            made.do(("hand", 0))
        self.assertEqual([made.state(name) for name in KEEPERS], ["paired", "paired"])
        self.assertEqual(told_of(made), told_of(world()))


if __name__ == "__main__":
    unittest.main()
