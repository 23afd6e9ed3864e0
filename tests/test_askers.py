"""Points 11 and 12: an asker's states, marks and deeds, and when what it should do."""

import unittest

from leasepair.askers import Asker
from leasepair.errors import NoDeed
from leasepair.letters import Letter

from tests.asking import END, HOLD, NOW, NUMBER, SPAN, STATES
from tests.asking import asker_in, deny, find, gave_in, grant, holding, mark_of, offer, renew, shown, shown_in, want
from tests.helpers import THINGS, assert_same, refused

DEEDS = ("seek", "renew", "free", "spoil")


def do(asker, word, reading):
    return getattr(asker, word)(reading)


class States(unittest.TestCase):

    def test_at_first(self):
        for reading in (-99999999999, -1, 0, 99999999999):
            self.assertEqual(shown(Asker("c"), reading), ("idle", None, None, "none"))

    def test_each_state(self):
        for state in STATES:
            self.assertEqual(shown(asker_in(state), NOW), shown_in(state))

    def test_the_whole_way(self):
        asker = Asker("c")
        self.assertEqual(asker.seek(10), [Letter("find", "c", "", mark=1)])
        self.assertEqual(asker.state(10), "asked")
        self.assertEqual(
            asker.take(Letter("offer", "two", "c", mark=1, number=9, link="l", via=()), 12),
            [Letter("want", "c", "", mark=2, number=9, who="two")],
        )
        self.assertEqual(asker.state(12), "wanting")
        self.assertEqual(asker.take(Letter("grant", "two", "c", mark=2, number=9, span=20, turn=4, link="l"), 15), [])
        self.assertEqual(shown(asker, 15), ("holding", 9, 32, "keep"))
        self.assertEqual(asker.renew(22), [Letter("renew", "c", "two", mark=3, number=9)])
        self.assertEqual(shown(asker, 22), ("holding", 9, 32, "renew"))
        self.assertEqual(asker.take(Letter("grant", "two", "c", mark=3, number=9, span=60, turn=5, link="l"), 24), [])
        self.assertEqual(shown(asker, 24), ("holding", 9, 82, "keep"))
        self.assertEqual(asker.free(30), [Letter("free", "c", "two", number=9, turn=5, who="two")])
        self.assertEqual(shown(asker, 30), ("idle", None, None, "none"))

    def test_the_end_reached_exactly_and_by_one_more(self):
        for reading, state in ((END - 1, "holding"), (END, "idle"), (END + 1, "idle"), (END + 1000, "idle")):
            for start in HOLD:
                asker = asker_in(start)
                self.assertEqual(asker.state(reading), state)
                self.assertEqual(asker.held(reading), NUMBER if state == "holding" else None)
                self.assertEqual(asker.held_to(reading), END if state == "holding" else None)
                self.assertEqual(asker.due(reading), "all" if state == "holding" else "none")

    def test_number_nought_is_held(self):
        self.assertEqual(holding(0, number=0).held(1), 0)

    def test_an_end_of_nought_and_below(self):
        self.assertEqual(holding(-40, span=40).held_to(-1), 0)
        self.assertEqual(holding(-40, span=40).state(0), "idle")
        self.assertEqual(shown(holding(-100, span=40), -70), ("holding", NUMBER, -60, "renew"))

    def test_to_ask_changes_nothing(self):
        for state in STATES:
            asker = asker_in(state)
            for step in range(3):
                self.assertEqual(shown(asker, NOW), shown_in(state))
        asker = asker_in("holding")
        for reading in (NOW, END - 1, END, END, END + 5):
            shown(asker, reading)
            shown(asker, reading)
        # The mark tells that nothing was sent meanwhile.
        self.assertEqual(asker.seek(END + 5), [find(3)])


class Deeds(unittest.TestCase):

    def test_seek_in_each_state(self):
        for state in STATES:
            asker = asker_in(state)
            if state in HOLD:
                self.assertEqual(refused(self, NoDeed, asker.seek, NOW).word, "seek")
                self.assertEqual(shown(asker, NOW), shown_in(state))
            else:
                self.assertEqual(asker.seek(NOW), [find(mark_of(state) + 1)])
                self.assertEqual(shown(asker, NOW), ("asked", None, None, "none"))

    def test_renew_in_each_state(self):
        for state in STATES:
            asker = asker_in(state)
            if state in HOLD:
                self.assertEqual(asker.renew(NOW), [renew(mark_of(state) + 1)])
            else:
                self.assertEqual(refused(self, NoDeed, asker.renew, NOW).word, "renew")
            self.assertEqual(shown(asker, NOW), shown_in(state))

    def test_free_and_spoil_in_each_state(self):
        for state in STATES:
            for word in ("free", "spoil"):
                asker = asker_in(state)
                if state in HOLD:
                    self.assertEqual(do(asker, word, NOW), [gave_in(word)])
                    self.assertEqual(shown(asker, NOW), ("idle", None, None, "none"))
                    self.assertEqual(refused(self, NoDeed, getattr(asker, word), NOW).word, word)
                else:
                    self.assertEqual(refused(self, NoDeed, getattr(asker, word), NOW).word, word)
                    self.assertEqual(shown(asker, NOW), shown_in(state))

    def test_what_is_refused_leaves_what_waits(self):
        asker = asker_in("asked")
        for word in ("renew", "free", "spoil"):
            refused(self, NoDeed, getattr(asker, word), NOW)
        self.assertEqual(asker.take(offer(1), NOW), [want(2)])
        for word in ("renew", "free", "spoil"):
            refused(self, NoDeed, getattr(asker, word), NOW)
        asker.take(grant(2), NOW)
        self.assertEqual(asker.state(NOW), "holding")
        asker.renew(NOW)
        refused(self, NoDeed, asker.seek, NOW + 1)
        asker.take(grant(3, span=100), NOW + 2)
        self.assertEqual(asker.held_to(NOW + 2), NOW + 100)

    def test_idle_before_each_deed(self):
        for late in (0, 1, 1000):
            for state in HOLD:
                for word in ("renew", "free", "spoil"):
                    asker = asker_in(state)
                    self.assertEqual(refused(self, NoDeed, getattr(asker, word), END + late).word, word)
                    self.assertEqual(shown(asker, END + late), ("idle", None, None, "none"))
                asker = asker_in(state)
                self.assertEqual(asker.seek(END + late), [find(mark_of(state) + 1)])
                self.assertEqual(asker.state(END + late), "asked")

    def test_right_ahead_of_the_end(self):
        self.assertEqual(asker_in("holding").free(END - 1), [gave_in("free")])
        self.assertEqual(asker_in("holding").spoil(END - 1), [gave_in("spoil")])
        self.assertEqual(asker_in("holding").renew(END - 1), [renew(3, "")])
        refused(self, NoDeed, asker_in("holding").seek, END - 1)

    def test_marks_are_counted_over_find_want_and_renew(self):
        asker = Asker("c")
        sent = asker.seek(0) + asker.seek(0) + asker.take(offer(2), 1) + asker.seek(1) + asker.take(offer(4), 1)
        self.assertEqual(sent, [find(1), find(2), want(3), find(4), want(5)])
        asker.take(grant(5), 2)
        self.assertEqual(asker.renew(2) + asker.renew(2), [renew(6), renew(7)])
        asker.take(grant(7), 3)
        self.assertEqual(asker.renew(3), [renew(8)])
        self.assertEqual(asker.free(3), [gave_in("free")])
        self.assertEqual(asker.seek(4), [find(9)])
        asker.take(offer(9), 4)
        asker.take(deny(10), 4)
        self.assertEqual(asker.seek(4), [find(11)])

    def test_free_and_spoil_go_to_the_keeper_that_lent_it_last(self):
        for word in ("free", "spoil"):
            asker = holding(0, keeper="two", turn=9)
            asker.renew(1)
            asker.take(grant(3, turn=12, sender="one"), 2)
            self.assertEqual(do(asker, word, 3), [gave_in(word, turn=12, keeper="one")])

    def test_a_grant_without_a_turn(self):
        asker = holding(0, turn=0)
        self.assertEqual(asker.free(1), [Letter("free", "c", "one", number=NUMBER, who="one")])

    def test_renew_to_the_keeper_that_lent_it_last(self):
        asker = holding(0, keeper="two")
        self.assertEqual(asker.renew(1), [renew(3, "two")])
        asker.take(grant(3, sender="zed"), 2)
        self.assertEqual(asker.renew(3), [renew(4, "zed")])

    def test_renew_to_both_where_less_than_an_eighth_is_left(self):
        for span in (1, 7, 8, 9, 16, 40, 41, 60):
            for left in range(1, span + 1):
                asker = holding(0, span=span)
                receiver = "" if 8 * left < span else "one"
                self.assertEqual(asker.renew(span - left), [renew(3, receiver)])
        self.assertEqual(holding(0, span=40).renew(35), [renew(3, "one")])
        self.assertEqual(holding(0, span=40).renew(36), [renew(3, "")])

    def test_letters_of_each_asker_bear_its_name(self):
        asker = holding(0, name="abcdefgh")
        self.assertEqual(asker.renew(0), [renew(3, sender="abcdefgh")])
        self.assertEqual(asker.free(0), [gave_in("free", sender="abcdefgh")])
        self.assertEqual(asker.seek(0), [find(4, sender="abcdefgh")])
        self.assertEqual(asker.take(offer(4, receiver="abcdefgh"), 0), [want(5, sender="abcdefgh")])


class Due(unittest.TestCase):

    def test_right_at_the_borders(self):
        told = [holding(0, span=16).due(reading) for reading in range(18)]
        self.assertEqual(told, ["keep"] * 8 + ["renew"] * 7 + ["all"] + ["none"] * 2)
        told = [holding(0, span=17).due(reading) for reading in range(19)]
        self.assertEqual(told, ["keep"] * 9 + ["renew"] * 6 + ["all"] * 2 + ["none"] * 2)
        told = [holding(-5, span=8).due(reading) for reading in range(-5, 5)]
        self.assertEqual(told, ["keep"] * 4 + ["renew"] * 4 + ["none"] * 2)
        self.assertEqual([holding(0, span=1).due(reading) for reading in range(3)], ["keep", "none", "none"])
        self.assertEqual([holding(0, span=2).due(reading) for reading in range(3)], ["keep", "renew", "none"])
        told = [holding(0, span=9).due(reading) for reading in range(10)]
        self.assertEqual(told, ["keep"] * 5 + ["renew"] * 3 + ["all"] + ["none"])

    def test_by_halves_and_eighths(self):
        for span in range(1, 100):
            for reading in range(span + 2):
                left = span - reading
                due = "none" if left <= 0 else "keep" if left > span / 2 else "all" if left < span / 8 else "renew"
                self.assertEqual(holding(0, span=span).due(reading), due)

    def test_by_the_last_grants_span(self):
        asker = holding(0, span=100)
        asker.renew(10)
        asker.take(grant(3, span=20), 12)
        # The end stays 100, but now twenty are a whole span.
        self.assertEqual(asker.held_to(12), 100)
        told = [asker.due(reading) for reading in (89, 90, 97, 98, 99, 100)]
        self.assertEqual(told, ["keep", "renew", "renew", "all", "all", "none"])
        self.assertEqual(asker.renew(98), [renew(4, "")])

    def test_by_what_is_left_not_by_when_it_was_taken(self):
        asker = Asker("c")
        asker.seek(0)
        asker.take(offer(1), 0)
        asker.take(grant(2, span=16), 9)
        self.assertEqual(asker.due(9), "renew")


class Lists(unittest.TestCase):

    def test_each_told_list_is_new(self):
        asker = Asker("c")
        for reading in (0, 1):
            told = asker.seek(reading)
            told.append("more")
            self.assertEqual(len(asker.seek(reading)), 1)
        taken = asker.take(offer(4), 1)
        nothing = asker.take(offer(4), 1)
        nothing.append("more")
        self.assertEqual(asker.take(offer(4), 1), [])
        self.assertEqual(taken, [want(5)])
        granted = asker.take(grant(5), 2)
        granted.append("more")
        self.assertEqual(asker.take(grant(5), 2), [])
        renewed = asker.renew(3)
        renewed.clear()
        again = asker.renew(3)
        self.assertEqual(again, [renew(7)])
        asker.free(3)
        self.assertEqual(again, [renew(7)])

    def test_two_askers_share_nothing(self):
        one, other = Asker("c"), Asker("c")
        one.seek(0)
        one.take(offer(1), 0)
        one.take(grant(2), 0)
        self.assertEqual(shown(other, 0), ("idle", None, None, "none"))
        self.assertEqual(other.seek(0), [find(1)])
        self.assertEqual(one.held(0), NUMBER)
        self.assertEqual(one.renew(0), [renew(3)])

    def test_by_names(self):
        asker = Asker(name="c")
        self.assertEqual(asker.seek(reading=0), [find(1)])
        self.assertEqual(asker.take(reading=0, letter=offer(1)), [want(2)])
        asker.take(letter=grant(2), reading=0)
        self.assertEqual(asker.state(reading=0), "holding")
        self.assertEqual(asker.held(reading=0), NUMBER)
        self.assertEqual(asker.held_to(reading=0), SPAN)
        self.assertEqual(asker.due(reading=0), "keep")
        self.assertEqual(asker.renew(reading=0), [renew(3)])
        self.assertEqual(asker.free(reading=0), [gave_in("free")])
        self.assertEqual(refused(self, NoDeed, asker.spoil, reading=0).word, "spoil")

    def test_unlike_other_things(self):
        asker = Asker("c")
        for thing in THINGS + [Letter("find", "c")]:
            assert_same(self, asker, thing, False)
        self.assertIs(bool(asker), True)


if __name__ == "__main__":
    unittest.main()
