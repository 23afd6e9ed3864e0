"""Points 13 and 14: what a keeper keeps, which numbers are free, and to which end it lends them."""

import itertools
import unittest

from leasepair.errors import NoNumber
from leasepair.keepers import Keeper
from leasepair.letters import Letter
from leasepair.pools import Pool
from leasepair.settings import Settings

from tests.helpers import THINGS, assert_same, refused
from tests.keeping import LINKS, NUMBERS, OF_ONE, OF_TWO, OTHER_NUMBERS, STATES
from tests.keeping import back, books, changed, deny, find, give, grant, hand_in, keeper, keeper_in, offer, renew, row
from tests.keeping import seen, told, want


class AtFirst(unittest.TestCase):

    def test_the_name(self):
        self.assertEqual((keeper("one").name, keeper("two").name), ("one", "two"))

    def test_paired(self):
        self.assertEqual((keeper("one").state(), keeper("two").state()), ("paired", "paired"))

    def test_titles_of_both_keepers(self):
        for name, own in (("one", OF_ONE), ("two", OF_TWO)):
            made = keeper(name)
            for number in NUMBERS:
                self.assertEqual(made.entry(number), (number in own, 0, "", None, 0, None, None, None))

    def test_each_links_pool_is_dealt_by_itself(self):
        pools = [
            Pool(), Pool(((5, 5),)), Pool(((5, 6),)), Pool(((0, 2),)), Pool(((100, 119), (140, 159))),
            Pool(((999990, 999999),)), Pool(((7, 7), (9, 9), (11, 11))),
        ]
        for one, other in itertools.permutations(pools, 2):
            if len(one.met(other)) > 0:
                continue
            links = (("l", one), ("k", other))
            first, second = keeper("one", links), keeper("two", links)
            for pool in (one, other):
                for place in range(len(pool)):
                    number = pool.number_at(place)
                    # By 1 and 1 every second one goes to the first part, from place 1 on.
                    self.assertEqual(first.entry(number), row(place % 2 == 1))
                    self.assertEqual(second.entry(number), row(place % 2 == 0))

    def test_sixty_numbers(self):
        made = keeper("two", (("l", Pool(((0, 59),))),))
        self.assertEqual([made.entry(number)[0] for number in range(60)], [True, False] * 30)

    def test_no_number_at_all(self):
        made = keeper("one", (("l", Pool()),))
        self.assertEqual(made.take(find(), 0), [])
        self.assertEqual(made.again(), [])
        self.assertEqual(made.alone(0), [])
        self.assertEqual(made.take(back(1, "two"), 0), [Letter("books", "one", "two", mark=1)])

    def test_truths_are_truths(self):
        made = keeper("one")
        for number in NUMBERS:
            self.assertIs(type(made.entry(number)), tuple)
            self.assertIs(made.entry(number)[0], number in OF_ONE)
            self.assertIs(made.is_free(number, 0), number in OF_ONE)


class OtherNumbers(unittest.TestCase):

    def test_no_number(self):
        for state in STATES:
            made = keeper_in(state)
            for number in OTHER_NUMBERS:
                with self.subTest(state=state, number=number):
                    self.assertEqual(refused(self, NoNumber, made.entry, number).number, number)
                    self.assertEqual(refused(self, NoNumber, made.is_free, number, 5).number, number)
                    self.assertEqual(refused(self, NoNumber, made.is_free, number, 5, who="c").number, number)
                    self.assertEqual(refused(self, NoNumber, made.give, number, 5).number, number)
            self.assertEqual(books(made), books(keeper_in(state)))


class Free(unittest.TestCase):

    def test_without_the_title_never(self):
        made = keeper("one")
        for number, who in itertools.product(OF_TWO, ("", "c")):
            self.assertIs(made.is_free(number, 0, who=who), False)
        # Neither is it to whom the other keeper lent it.
        made.take(told(1, 0, "c", 5, "two"), 0)
        for reading in (0, 5, 13, 1000):
            self.assertIs(made.is_free(1, reading, who="c"), False)
            self.assertIs(made.is_free(1, reading), False)

    def test_right_at_the_end_and_the_grace(self):
        for grace in (0, 1, 8, 100):
            made = keeper("one", grace=grace)
            made.take(want(2), 10)
            self.assertEqual(made.entry(2)[3], 30)
            for reading, is_free in ((10, False), (29 + grace, False), (30 + grace, True), (31 + grace, True)):
                self.assertIs(made.is_free(2, reading), is_free)
                self.assertIs(made.is_free(2, reading, who="d"), is_free)
                self.assertIs(made.is_free(2, reading, who="c"), True)

    def test_lent_to_nobody(self):
        made = keeper("one")
        for reading, who in itertools.product((-99999999999, 0, 99999999999), ("", "c")):
            self.assertIs(made.is_free(2, reading, who=who), True)

    def test_right_at_since(self):
        for rest in (0, 1, 30):
            made = keeper("one", rest=rest)
            made.take(want(2), 10)
            made.take(hand_in("spoil", 2, 1), 15)
            self.assertEqual(made.entry(2), row(True, turn=1, since=15 + rest))
            for reading, who in itertools.product(range(15, 17 + rest), ("", "c", "d")):
                self.assertIs(made.is_free(2, reading, who=who), reading >= 15 + rest)

    def test_since_of_a_number_that_was_taken_over(self):
        made = keeper("one")
        made.take(told(1, 0, "c", 50, "two"), 5)
        made.alone(20)
        self.assertEqual(made.entry(1), row(True, 2, "c", far=50, since=78))
        # It didn't lend it itself: there is no end to wait for.
        for reading, who in itertools.product((20, 77, 78, 79), ("", "c", "d")):
            self.assertIs(made.is_free(1, reading, who=who), reading >= 78)

    def test_since_and_the_end_both_count(self):
        made = keeper("one")
        made.alone(0)
        made.take(want(1), 28)
        self.assertEqual(made.entry(1), row(True, 2, "c", end=88, turn=1, since=28))
        for reading, is_free in ((28, False), (95, False), (96, True)):
            self.assertIs(made.is_free(1, reading, who="d"), is_free)
        made.take(renew(1), 30)
        self.assertEqual(made.entry(1)[3], 90)

    def test_a_far_end_makes_it_no_less_free(self):
        made = keeper("one")
        made.take(told(1, 0, "c", 500, "two"), 0)
        made.take(give(1, 1, "two"), 1)
        self.assertEqual(made.entry(1), row(True, 1))
        self.assertIs(made.is_free(1, 1, who="d"), True)

    def test_in_each_state(self):
        for state in STATES:
            self.assertIs(keeper_in(state).is_free(2, 0), True)
            self.assertIs(keeper_in(state).is_free(1, 27), False)
        self.assertIs(keeper_in("alone").is_free(1, 28), True)

    def test_to_ask_changes_nothing(self):
        made = keeper("one")
        made.take(want(2), 10)
        before = books(made)
        for reading in (10, 37, 38, 39):
            made.is_free(2, reading)
            made.is_free(2, reading, who="d")
        self.assertEqual(books(made), before)


class Lent(unittest.TestCase):

    def test_paired_the_end_is_at_most_the_lead_behind_the_reading(self):
        for lease, lead, end in (
            (60, 20, 30), (60, 1, 11), (60, 60, 70), (20, 20, 30), (1, 1, 11), (999999, 999999, 1000009),
        ):
            made = keeper("one", lease=lease, lead=lead)
            self.assertEqual(made.take(want(2), 10), [grant(2, end - 10, 1), told(2, 0, "c", end)])
            self.assertEqual(made.entry(2), row(True, 0, "c", end, 1))

    def test_paired_the_end_is_at_most_the_lead_behind_seen(self):
        # Whatever was seen ahead of the want: the reading is 100, lease 60, lead 20.
        for known, end in (
            (-5, 120), (0, 120), (99, 120), (100, 120), (101, 121), (139, 159), (140, 160), (141, 160), (10 ** 11, 160),
        ):
            made = keeper("one")
            made.take(seen(2, 0, known, "two"), 50)
            self.assertEqual(made.take(want(2), 100), [grant(2, end - 100, 1), told(2, 0, "c", end)])
            self.assertEqual(made.entry(2), row(True, 0, "c", end, 1, seen=known))

    def test_alone_the_end_is_the_lease_behind_the_reading(self):
        made = keeper("one")
        made.take(seen(2, 0, 5, "two"), 50)
        made.alone(60)
        self.assertEqual(made.take(want(2), 100), [grant(2, 60, 1)])
        self.assertEqual(made.entry(2), row(True, 0, "c", 160, 1, seen=5))

    def test_to_the_same_asker_it_never_ends_sooner(self):
        for letter in (want(2), renew(2)):
            made = keeper("one")
            made.alone(0)
            made.take(want(2), 10)
            made.take(back(1, "two"), 11)
            self.assertEqual(made.state(), "paired")
            # Paired it would be 32 now, but 70 it was.
            self.assertEqual(made.take(letter, 12), [grant(2, 58, 2), told(2, 0, "c", 70)])
            self.assertEqual(made.entry(2), row(True, 0, "c", 70, 2))
            self.assertEqual(made.take(letter, 49), [grant(2, 21, 3), told(2, 0, "c", 70)])
            self.assertEqual(made.take(letter, 50), [grant(2, 20, 4), told(2, 0, "c", 70)])
            self.assertEqual(made.take(letter, 51), [grant(2, 20, 5), told(2, 0, "c", 71)])

    def test_to_another_asker_the_end_ahead_does_not_count(self):
        made = keeper("one", grace=0)
        made.take(seen(2, 0, 1000, "two"), 0)
        made.take(want(2), 0)
        self.assertEqual(made.entry(2)[3], 60)
        self.assertEqual(made.take(want(2, sender="d"), 59), [deny(2, receiver="d")])
        self.assertEqual(made.take(want(2, sender="d"), 60), [grant(2, 60, 2, receiver="d"), told(2, 0, "d", 120)])

    def test_to_the_same_asker_without_an_end(self):
        made = keeper("one")
        made.take(told(1, 0, "c", 500, "two"), 0)
        made.alone(0)
        self.assertEqual(made.take(renew(1), 10), [grant(1, 60, 1)])
        self.assertEqual(made.entry(1), row(True, 2, "c", 70, 1, far=500, since=528))

    def test_the_end_of_one_who_gave_it_back_does_not_count(self):
        made = keeper("one")
        made.take(seen(2, 0, 1000, "two"), 0)
        made.take(want(2), 0)
        made.take(hand_in("free", 2, 1), 1)
        made.alone(2)
        made.take(back(1, "two"), 2)
        made.take(want(2), 2)
        self.assertEqual(made.entry(2), row(True, 0, "c", 62, 2, seen=1000))

    def test_turns_are_counted_over_all_numbers(self):
        made = keeper("one")
        turns = []
        for step, (number, sender) in enumerate(((2, "c"), (4, "d"), (2, "c"), (6, "e"), (4, "d"))):
            turns.append(made.take(want(number, sender=sender), step)[0].turn)
        turns.append(made.take(renew(6, sender="e"), 6)[0].turn)
        made.take(want(2, sender="d"), 6)
        made.alone(7)
        turns.append(made.take(renew(2), 7)[0].turn)
        made.take(back(3, "two"), 8)
        made.start()
        made.take(Letter("books", "two", "one", mark=1), 9)
        turns.append(made.take(renew(2), 9)[0].turn)
        self.assertEqual(turns, [1, 2, 3, 4, 5, 6, 7, 8])
        self.assertEqual([made.entry(number)[4] for number in (2, 4, 6)], [8, 5, 6])

    def test_two_keepers_count_their_own_turns(self):
        one, two = keeper("one"), keeper("two")
        one.take(want(2), 0)
        one.take(want(4, sender="d"), 0)
        self.assertEqual(two.take(want(1, who="two"), 0), [grant(1, 20, 1, "two"), told(1, 0, "c", 20, "two")])

    def test_readings_below_nought(self):
        made = keeper("one")
        self.assertEqual(made.take(want(2), -99999999999), [grant(2, 20, 1), told(2, 0, "c", -99999999979)])
        self.assertEqual(made.take(want(4, sender="d"), -20), [grant(4, 20, 2, receiver="d"), told(4, 0, "d", 0)])
        for reading, is_free in ((7, False), (8, True)):
            self.assertIs(made.is_free(4, reading), is_free)

    def test_great_readings(self):
        made = keeper("one", lease=999999, lead=999999)
        end = 99999999999 + 999999
        self.assertEqual(made.take(want(2), 99999999999), [grant(2, 999999, 1), told(2, 0, "c", end)])


class Kept(unittest.TestCase):

    def test_two_keepers_share_nothing(self):
        settings = Settings()
        for name in ("one", "two"):
            one, other = (Keeper("one", links=LINKS, settings=settings), Keeper(name, links=LINKS, settings=settings))
            one.take(want(2), 0)
            one.give(4, 0)
            one.alone(0)
            self.assertEqual(books(other), books(keeper(name)))
            self.assertEqual(other.start(), [back(1, name)])
            self.assertEqual(one.state(), "alone")

    def test_what_is_handed_in_is_not_changed(self):
        links = (("l", Pool(((1, 6),))), ("k", Pool(((10, 12), (20, 20)))), ("m", Pool()))
        settings = Settings(lease=50)
        made = Keeper("one", links=links, settings=settings)
        made.take(want(2), 0)
        made.give(4, 0)
        made.alone(0)
        self.assertEqual(links, LINKS)
        self.assertEqual(settings, Settings(lease=50))

    def test_settings_put_otherwise_behind_the_call(self):
        settings = Settings()
        made = Keeper("one", links=LINKS, settings=settings)
        for name in ("lease", "lead", "grace", "wait", "rest"):
            setattr(settings, name, 1)
        other = keeper("one")
        for step in (want(2), renew(2), want(2, sender="d"), hand_in("spoil", 2, 2)):
            self.assertEqual(made.take(step, 5), other.take(step, 5))
        made.alone(6)
        other.alone(6)
        self.assertEqual(made.take(renew(2), 6), other.take(renew(2), 6))
        self.assertEqual(books(made), books(other))

    def test_each_told_list_is_new(self):
        made = keeper("one")
        first = made.take(find(), 0)
        first.append("more")
        self.assertEqual(made.take(find(), 0), [offer(2)])
        nothing = made.take(find(link="m"), 0)
        nothing.append("more")
        self.assertEqual(made.take(find(link="m"), 0), [])
        lent = made.take(want(2), 0)
        kept = list(lent)
        made.take(renew(2), 5)
        self.assertEqual(lent, kept)
        again = made.again()
        self.assertEqual(again, [told(2, 0, "c", 25)])
        again.clear()
        self.assertEqual(made.again(), [told(2, 0, "c", 25)])
        given = made.give(4, 6)
        given.clear()
        self.assertEqual(made.again(), [told(2, 0, "c", 25), give(4, 1)])
        answered = made.take(back(1, "two"), 6)
        made.take(renew(2), 7)
        self.assertEqual(answered[0].rows[1], (2, 0, True, "c", 25))
        alone = made.alone(8)
        alone.append("more")
        self.assertEqual(made.again(), [])
        self.assertEqual(made.start(), [])
        started = keeper("two").start()
        started.append("more")
        self.assertEqual(keeper("two").start(), [back(1, "two")])

    def test_an_entry_told_stays_as_it_was(self):
        made = keeper("one")
        before = made.entry(2)
        made.take(want(2), 0)
        self.assertEqual(before, row(True))
        self.assertEqual(made.entry(2), changed(before, who="c", end=20, turn=1))

    def test_by_names(self):
        made = Keeper(settings=Settings(), links=LINKS, name="one")
        self.assertEqual(made.entry(number=2), row(True))
        self.assertIs(made.is_free(who="c", reading=3, number=2), True)
        self.assertEqual(made.take(reading=3, letter=find()), [offer(2)])
        self.assertEqual(made.give(reading=3, number=2), [give(2, 1)])
        self.assertEqual(made.alone(reading=3), [])
        for call in (
            lambda: Keeper("one", LINKS, Settings()), lambda: Keeper("one", links=LINKS),
            lambda: Keeper("one", settings=Settings()), lambda: made.is_free(2, 3, "c"),
        ):
            with self.assertRaises(TypeError):
                call()

    def test_unlike_other_things(self):
        made = keeper("one")
        for thing in THINGS + [Settings(), Pool(), Letter("find", "c")]:
            assert_same(self, made, thing, False)
        self.assertIs(bool(made), True)
        self.assertIs(bool(keeper("one", (("l", Pool()),))), True)


if __name__ == "__main__":
    unittest.main()
