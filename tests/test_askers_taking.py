"""Point 12: what an asker takes, in each state, and what it doesn't."""

import itertools
import random
import unittest

from leasepair.askers import Asker
from leasepair.letters import Letter

from tests.asking import END, NOW, NUMBER, SPAN, STATES
from tests.asking import asker_in, deny, find, gave_in, grant, holding, mark_of, offer, renew, shown, shown_in, want
from tests.helpers import BIG, KINDS, told_fields

IDLE = ("idle", None, None, "none")


def letter_of(kind, mark, **named):
    return Letter(kind, "one", "c", **{"mark": mark, "number": NUMBER, "span": SPAN, "turn": 3, **named})


class Taking(unittest.TestCase):

    def assert_nothing(self, state, letter):
        """The letter means nothing to an asker in this state: nothing is sent, and nothing waits otherwise."""
        asker, other = asker_in(state), asker_in(state)
        with self.subTest(state=state, letter=letter):
            self.assertEqual(asker.take(letter, NOW), [])
            self.assertEqual(shown(asker, NOW), shown_in(state))
            for answer in (offer(mark_of(state)), grant(mark_of(state), span=200, turn=8)):
                self.assertEqual(asker.take(answer, NOW), other.take(answer, NOW))
                self.assertEqual(shown(asker, NOW), shown(other, NOW))


class Kinds(Taking):

    def test_each_kind_with_the_last_mark_in_each_state(self):
        taken = [("asked", "offer")]
        taken += itertools.product(("wanting", "renewing"), ("grant", "deny"))
        for state, kind in itertools.product(STATES, KINDS):
            if (state, kind) not in taken:
                self.assert_nothing(state, letter_of(kind, mark_of(state)))

    def test_each_kind_with_other_marks_in_each_state(self):
        for state, kind in itertools.product(STATES, KINDS):
            for mark in {0, 1, 2, 3, 4, BIG} - {mark_of(state)}:
                self.assert_nothing(state, letter_of(kind, mark))

    def test_letters_to_others(self):
        for state, kind in itertools.product(STATES, KINDS):
            for receiver in ("", "d", "one", "two", "cc"):
                letter = Letter(kind, "one", receiver, mark=mark_of(state), number=NUMBER, span=SPAN)
                self.assert_nothing(state, letter)

    def test_offers_and_grants_without_a_number_and_grants_without_a_span(self):
        self.assert_nothing("asked", letter_of("offer", 1, number=None))
        for state in ("wanting", "renewing"):
            self.assert_nothing(state, letter_of("grant", mark_of(state), number=None))
            self.assert_nothing(state, letter_of("grant", mark_of(state), span=0))
            self.assert_nothing(state, letter_of("grant", mark_of(state), number=None, span=0))


class Offers(Taking):

    def test_an_offer(self):
        for number, sender in itertools.product((0, 7, 999999), ("one", "two", "zed", "c")):
            asker = asker_in("asked")
            self.assertEqual(asker.take(offer(1, number, sender), NOW), [want(2, number, sender)])
            self.assertEqual(shown(asker, NOW), ("wanting", None, None, "none"))

    def test_the_want_bears_just_its_own_fields(self):
        asker = asker_in("asked")
        heavy = Letter(
            "offer", "two", "c", mark=1, number=5, span=6, turn=7, count=8, end=9, who="d", link="l", via=("r",),
            rows=((1, 2, True, "d", 3),),
        )
        kept = told_fields(heavy)
        self.assertEqual(asker.take(heavy, NOW), [want(2, 5, "two")])
        self.assertEqual(told_fields(heavy), kept)

    def test_without_a_span(self):
        self.assertEqual(asker_in("asked").take(offer(1), NOW), [want(2)])

    def test_only_the_first_of_two(self):
        asker = asker_in("asked")
        self.assertEqual(asker.take(offer(1, 5, "two"), NOW), [want(2, 5, "two")])
        self.assertEqual(asker.take(offer(1, 4, "one"), NOW), [])
        self.assertEqual(asker.take(offer(1, 5, "two"), NOW), [])
        self.assertEqual(asker.take(offer(2, 5, "two"), NOW), [])
        asker.take(grant(2, 5, sender="two"), NOW)
        self.assertEqual(asker.held(NOW), 5)

    def test_only_to_the_last_find(self):
        asker = asker_in("asked")
        asker.seek(95)
        self.assertEqual(asker.take(offer(1), NOW), [])
        self.assertEqual(asker.state(NOW), "asked")
        self.assertEqual(asker.take(offer(2), NOW), [want(3)])

    def test_wanting_it_seeks_anew(self):
        asker = asker_in("wanting")
        self.assertEqual(asker.seek(95), [find(3)])
        for late in (grant(2), deny(2), offer(1), offer(2), grant(3), deny(3)):
            self.assertEqual(asker.take(late, NOW), [])
            self.assertEqual(shown(asker, NOW), ("asked", None, None, "none"))
        self.assertEqual(asker.take(offer(3), NOW), [want(4)])


class Grants(Taking):

    def test_the_end_is_reckoned_from_when_the_want_was_sent(self):
        # The find was sent at 90, the want at 91.
        asker = asker_in("wanting")
        self.assertEqual(asker.take(grant(2), NOW), [])
        self.assertEqual(shown(asker, NOW), ("holding", NUMBER, 91 + SPAN, "keep"))

    def test_holding_where_the_end_is_above_the_reading(self):
        for span, end in ((8, None), (9, None), (10, 101), (11, 102), (1, None), (BIG, 91 + BIG)):
            asker = asker_in("wanting")
            self.assertEqual(asker.take(grant(2, span=span), NOW), [])
            state = "idle" if end is None else "holding"
            self.assertEqual((asker.state(NOW), asker.held_to(NOW)), (state, end))
            self.assertEqual(asker.held(NOW), None if end is None else NUMBER)
            # Answered it is all the same.
            asker.take(grant(2, span=500), NOW)
            self.assertEqual((asker.state(NOW), asker.held_to(NOW)), (state, end))

    def test_number_turn_and_keeper_are_the_grants(self):
        asker = asker_in("wanting")
        asker.take(grant(2, number=0, turn=8, sender="zed"), NOW)
        self.assertEqual(asker.held(NOW), 0)
        self.assertEqual(asker.free(NOW), [gave_in("free", 0, 8, "zed")])

    def test_only_the_first_of_two(self):
        asker = asker_in("wanting")
        asker.take(grant(2), NOW)
        for late in (grant(2, 9, 90, 5, "two"), deny(2), offer(1), offer(2)):
            self.assertEqual(asker.take(late, NOW), [])
            self.assertEqual(shown(asker, NOW), ("holding", NUMBER, 131, "keep"))
        self.assertEqual(asker.free(NOW), [gave_in("free")])
        asker.take(grant(2), NOW)
        self.assertEqual(shown(asker, NOW), IDLE)

    def test_the_deed_stays_what_it_was_sent_for(self):
        # Each of these was sent at its own reading; the answer comes later.
        asker = Asker("c")
        asker.seek(0)
        asker.take(offer(1), 10)
        asker.take(grant(2, span=50), 20)
        self.assertEqual(asker.held_to(20), 60)
        asker.renew(30)
        asker.take(grant(3, span=50), 40)
        self.assertEqual(asker.held_to(40), 80)
        asker.renew(50)
        asker.renew(55)
        asker.take(grant(4, span=50), 56)
        self.assertEqual(asker.held_to(56), 80)
        asker.take(grant(5, span=50), 60)
        self.assertEqual(asker.held_to(60), 105)


class Renewals(Taking):

    def test_a_later_end(self):
        # The renew was sent at 95.
        asker = asker_in("renewing")
        self.assertEqual(asker.take(grant(3, turn=9, sender="two"), NOW), [])
        self.assertEqual(shown(asker, NOW), ("holding", NUMBER, 95 + SPAN, "keep"))
        self.assertEqual(asker.spoil(NOW), [gave_in("spoil", turn=9, keeper="two")])

    def test_an_end_of_the_held_number_that_is_sooner(self):
        for span, end in ((1, END), (5, END), (14, END), (15, END), (16, END + 1)):
            asker = asker_in("renewing")
            asker.take(grant(3, span=span, turn=9, sender="two"), NOW)
            self.assertEqual((asker.state(NOW), asker.held(NOW), asker.held_to(NOW)), ("holding", NUMBER, end))
            self.assertEqual(asker.renew(NOW), [renew(4, "two")])
            self.assertEqual(asker.free(NOW), [gave_in("free", turn=9, keeper="two")])

    def test_another_number(self):
        for span, end in ((14, 109), (15, 110), (6, 101), (30, 125)):
            asker = asker_in("renewing")
            asker.take(grant(3, number=8, span=span), NOW)
            self.assertEqual((asker.state(NOW), asker.held(NOW), asker.held_to(NOW)), ("holding", 8, end))
        for span in (5, 4, 1):
            asker = asker_in("renewing")
            asker.take(grant(3, number=8, span=span), NOW)
            self.assertEqual(shown(asker, NOW), IDLE)

    def test_a_want_has_no_end_ahead(self):
        asker = holding(0, span=1000)
        asker.free(1)
        asker.seek(2)
        asker.take(offer(3), 3)
        asker.take(grant(4, span=5), 4)
        self.assertEqual(asker.held_to(4), 8)

    def test_only_to_the_last_renew(self):
        asker = asker_in("renewing")
        asker.renew(97)
        for late in (grant(3, span=100), deny(3)):
            asker.take(late, NOW)
            self.assertEqual(shown(asker, NOW), shown_in("renewing"))
        asker.take(grant(4, span=100), NOW)
        self.assertEqual(asker.held_to(NOW), 197)

    def test_behind_the_end_it_is_idle_first(self):
        for late in (0, 1, 50):
            for answer in (grant(3, span=500), deny(3)):
                asker = asker_in("renewing")
                self.assertEqual(asker.take(answer, END + late), [])
                self.assertEqual(shown(asker, END + late), IDLE)
        asker = asker_in("renewing")
        asker.take(grant(3, span=500), END - 1)
        self.assertEqual(asker.held_to(END - 1), 595)

    def test_any_letter_behind_the_end_finds_it_idle(self):
        asker = asker_in("renewing")
        self.assertEqual(asker.take(letter_of("told", 0), END), [])
        self.assertEqual(asker.take(grant(3, span=500), END), [])
        self.assertEqual(shown(asker, END), IDLE)

    def test_freed_it_waits_no_more(self):
        for word in ("free", "spoil"):
            asker = asker_in("renewing")
            getattr(asker, word)(NOW)
            for late in (grant(3, span=500), deny(3), offer(3)):
                self.assertEqual(asker.take(late, NOW), [])
                self.assertEqual(shown(asker, NOW), IDLE)

    def test_renewed_in_time_its_end_never_comes_sooner(self):
        source = random.Random(12)
        for run in range(200):
            asker = holding(0, span=50)
            reading, mark, end = 0, 2, 50
            while reading < end and mark < 20:
                self.assertEqual(asker.held_to(reading), end)
                asker.renew(reading)
                mark += 1
                reading += source.randint(0, 8)
                asker.take(grant(mark, span=source.randint(1, 60)), reading)
                if asker.held_to(reading) is None:
                    self.assertLessEqual(end, reading)
                    break
                self.assertGreaterEqual(asker.held_to(reading), end)
                end = asker.held_to(reading)


class Denies(Taking):

    def test_a_deny(self):
        for state in ("wanting", "renewing"):
            for named in ({}, {"number": None}, {"number": 9}, {"sender": "zed"}):
                asker = asker_in(state)
                self.assertEqual(asker.take(deny(mark_of(state), **named), NOW), [])
                self.assertEqual(shown(asker, NOW), IDLE)
                self.assertEqual(asker.take(grant(mark_of(state)), NOW), [])
                self.assertEqual(shown(asker, NOW), IDLE)

    def test_to_one_who_holds_without_a_renew(self):
        for mark in (0, 1, 2, 3):
            self.assert_nothing("holding", deny(mark))


if __name__ == "__main__":
    unittest.main()
