"""Point 15: how a keeper takes the letters of askers, and which mean nothing to it."""

import itertools
import unittest

from leasepair.letters import Letter
from leasepair.pools import Pool

from tests.helpers import KINDS, told_fields
from tests.keeping import NUMBERS, OF_ONE
from tests.keeping import back, books, deny, find, give, grant, hand_in, keeper, keeper_in, offer, other_of, renew
from tests.keeping import row, seen, told, want

SERVING = ("paired", "alone")
FULL = {
    "mark": 9, "number": 2, "span": 3, "turn": 4, "count": 5, "end": 6, "who": "one", "link": "l", "via": ("r",),
    "rows": ((2, 8, True, "d", 9),),
}


def heavy(kind, sender="c", receiver="", **named):
    """A letter that bears every field."""
    return Letter(kind, sender, receiver, **{**FULL, **named})


class Asked(unittest.TestCase):

    def assert_nothing(self, made, letter, reading):
        before = books(made)
        with self.subTest(letter=letter):
            self.assertEqual(made.take(letter, reading), [])
            self.assertEqual(books(made), before)


class Finds(Asked):

    def test_the_least_free_number_of_the_link(self):
        self.assertEqual(keeper("one").take(find(), 0), [offer(2)])
        self.assertEqual(keeper("two").take(find(), 0), [offer(1, "two")])
        self.assertEqual(keeper("one").take(find(link="k"), 0), [offer(11, link="k")])
        self.assertEqual(keeper("two").take(find(link="k"), 0), [offer(10, "two", link="k")])

    def test_to_both_and_to_it_by_its_name(self):
        for name, receiver in itertools.product(("one", "two"), ("", "same", "other")):
            made = keeper(name)
            letter = find(receiver={"": "", "same": name, "other": other_of(name)}[receiver])
            if receiver == "other":
                self.assert_nothing(made, letter, 0)
            else:
                self.assertEqual(len(made.take(letter, 0)), 1)

    def test_an_offer_changes_nothing(self):
        made = keeper("one")
        for sender in ("c", "d", "c"):
            self.assertEqual(made.take(find(sender), 3), [offer(2, receiver=sender)])
        self.assertEqual(books(made), books(keeper("one")))

    def test_its_own_number_first(self):
        made = keeper("one")
        made.take(want(4), 0)
        made.take(want(6, sender="d"), 0)
        self.assertEqual(made.take(find("c"), 1), [offer(4)])
        self.assertEqual(made.take(find("d"), 1), [offer(6, receiver="d")])
        self.assertEqual(made.take(find("e"), 1), [offer(2, receiver="e")])

    def test_of_two_own_ones_the_least(self):
        made = keeper("one")
        made.take(want(6), 0)
        made.take(want(4), 0)
        self.assertEqual(made.take(find(), 1), [offer(4)])

    def test_an_own_one_of_another_link_does_not_count(self):
        made = keeper("one")
        made.take(want(20, link="k"), 0)
        self.assertEqual(made.take(find(), 1), [offer(2)])
        self.assertEqual(made.take(find(link="k"), 1), [offer(20, link="k")])

    def test_an_own_one_that_rests_does_not_count(self):
        made = keeper("one")
        made.take(told(1, 0, "c", 30, "two"), 0)
        made.alone(0)
        # Its since is 58; ahead of it the least free one is offered.
        self.assertEqual(made.take(find("c"), 57), [offer(2)])
        self.assertEqual(made.take(find("c"), 58), [offer(1)])
        self.assertEqual(made.take(find("d"), 58), [offer(1, receiver="d")])

    def test_an_own_one_without_the_title_does_not_count(self):
        made = keeper("one")
        made.take(told(1, 0, "c", 30, "two"), 0)
        self.assertEqual(made.take(find("c"), 5), [offer(2)])

    def test_one_that_was_another_askers_behind_its_end_and_the_grace(self):
        made = keeper("one")
        made.take(want(2), 0)
        self.assertEqual(made.take(find("d"), 27), [offer(4, receiver="d")])
        self.assertEqual(made.take(find("d"), 28), [offer(2, receiver="d")])
        # It is still offered to whom it was lent.
        self.assertEqual(made.take(find("c"), 500), [offer(2)])

    def test_none_is_free(self):
        made = keeper("one")
        for at, number in enumerate((2, 4, 6)):
            made.take(want(number, sender="def"[at]), 0)
        self.assert_nothing(made, find(), 27)
        self.assertEqual(made.take(find(), 28), [offer(2)])
        self.assertEqual(keeper("one").take(find(link="m"), 0), [])

    def test_alone_it_offers_all_numbers(self):
        made = keeper_in("alone", "two", reading=0)
        self.assertEqual(made.take(find(), 0), [offer(1, "two")])
        made.take(want(1, "two", sender="d"), 0)
        self.assertEqual(made.take(find(), 27), [offer(3, "two")])
        self.assertEqual(made.take(find(), 28), [offer(2, "two")])

    def test_its_number_and_the_rest_are_not_looked_at(self):
        for number in NUMBERS + (0, 7, 999999):
            self.assertEqual(
                keeper("one").take(heavy("find", number=number), 0), [offer(2, mark=9, via=("r",))]
            )

    def test_number_nought(self):
        made = keeper("two", (("l", Pool(((0, 1),))),))
        self.assertEqual(made.take(find(), 0), [offer(0, "two")])
        self.assertEqual(made.take(want(0, "two"), 0)[0], grant(0, 20, 1, "two"))


class Wants(Asked):

    def test_each_who(self):
        for state, name in itertools.product(SERVING, ("one", "two")):
            for who in ("one", "two", "", "c", "d"):
                made = keeper_in(state, name)
                number = 2 if name == "one" else 1
                if who == name:
                    kinds = [letter.kind for letter in made.take(want(number, who), 0)]
                    self.assertEqual(kinds, ["grant", "told"] if state == "paired" else ["grant"])
                    self.assertEqual(made.entry(number)[2], "c")
                else:
                    self.assert_nothing(made, want(number, who), 0)

    def test_a_free_one_is_lent(self):
        made = keeper("one")
        self.assertEqual(made.take(want(2), 5), [grant(2, 20, 1), told(2, 0, "c", 25)])
        self.assertEqual(made.entry(2), row(True, 0, "c", 25, 1))
        self.assertEqual([made.entry(number) for number in NUMBERS if number != 2], [
            row(number in OF_ONE) for number in NUMBERS if number != 2
        ])

    def test_told_goes_to_the_other_keeper(self):
        self.assertEqual(
            keeper("two").take(want(3, "two"), 5), [grant(3, 20, 1, "two"), told(3, 0, "c", 25, "two")]
        )

    def test_the_told_bears_the_count(self):
        made = keeper("one")
        made.take(give(1, 7, "two"), 0)
        self.assertEqual(made.take(want(1), 5), [grant(1, 20, 1), told(1, 7, "c", 25)])

    def test_another_askers_is_denied(self):
        made = keeper("one")
        made.take(want(2), 0)
        for reading in (0, 20, 27):
            before = books(made)
            self.assertEqual(made.take(want(2, sender="d"), reading), [deny(2, receiver="d")])
            self.assertEqual(books(made), before)
        self.assertEqual(made.take(want(2, sender="d"), 28), [grant(2, 20, 2, receiver="d"), told(2, 0, "d", 48)])
        self.assertEqual(made.take(want(2, sender="c"), 28), [deny(2)])

    def test_without_the_title_it_is_denied(self):
        for number in (1, 3, 5):
            made = keeper("one")
            self.assertEqual(made.take(want(number), 0), [deny(number)])
            self.assertEqual(books(made), books(keeper("one")))

    def test_ahead_of_since_it_is_denied_to_all(self):
        made = keeper("one")
        made.take(told(1, 0, "c", 30, "two"), 0)
        made.alone(0)
        for sender in ("c", "d"):
            self.assertEqual(made.take(want(1, sender=sender), 57), [deny(1, receiver=sender)])
        self.assertEqual(made.take(want(1, sender="d"), 58), [grant(1, 60, 1, receiver="d")])
        self.assertEqual(made.entry(1), row(True, 2, "d", 118, 1, far=30, since=58))

    def test_the_same_want_twice(self):
        made = keeper("one")
        self.assertEqual(made.take(want(2), 0), [grant(2, 20, 1), told(2, 0, "c", 20)])
        self.assertEqual(made.take(want(2), 3), [grant(2, 20, 2), told(2, 0, "c", 23)])
        self.assertEqual(made.entry(2), row(True, 0, "c", 23, 2))

    def test_answers_bear_mark_link_and_via_alone(self):
        for made, letter, answers in (
            (keeper("one"), heavy("want"), [grant(2, 20, 1, mark=9, via=("r",)), told(2, 0, "c", 20)]),
            (keeper("one"), heavy("want", number=1), [deny(1, mark=9, via=("r",))]),
            (keeper("one"), heavy("want", mark=0, via=()), [grant(2, 20, 1, mark=0, via=()), told(2, 0, "c", 20)]),
            (keeper("one"), heavy("find"), [offer(2, mark=9, via=("r",))]),
            (keeper("one"), heavy("renew"), [deny(2, mark=9, via=("r",))]),
        ):
            kept = told_fields(letter)
            self.assertEqual(made.take(letter, 0), answers)
            self.assertEqual(told_fields(letter), kept)


class Renewals(Asked):

    def test_who_is_the_asker(self):
        made = keeper("one")
        made.take(want(2), 0)
        self.assertEqual(made.take(renew(2), 10), [grant(2, 20, 2), told(2, 0, "c", 30)])
        self.assertEqual(made.take(renew(2), 10), [grant(2, 20, 3), told(2, 0, "c", 30)])
        # Nobody else asked for it meanwhile, so even behind the end and the grace it is renewed.
        self.assertEqual(made.take(renew(2), 500), [grant(2, 20, 4), told(2, 0, "c", 520)])

    def test_the_who_of_the_letter_is_not_looked_at(self):
        for who in ("", "one", "two", "c", "d"):
            made = keeper("one")
            made.take(want(2), 0)
            self.assertEqual(made.take(renew(2, who=who), 10)[0], grant(2, 20, 2))
            self.assertEqual(made.take(renew(2, "d", who=who), 10), [deny(2, receiver="d")])

    def test_whatever_since_tells(self):
        made = keeper("one")
        made.take(told(1, 0, "c", 30, "two"), 0)
        made.alone(0)
        self.assertIs(made.is_free(1, 5, who="c"), False)
        self.assertEqual(made.take(renew(1), 5), [grant(1, 60, 1)])
        self.assertEqual(made.entry(1), row(True, 2, "c", 65, 1, far=30, since=58))
        self.assertEqual(made.take(renew(1), 58), [grant(1, 60, 2)])

    def test_another_or_nobody_is_who(self):
        made = keeper("one")
        made.take(want(2), 0)
        before = books(made)
        for letter in (renew(2, "d"), renew(4, "d")):
            self.assertEqual(made.take(letter, 1), [deny(letter.number, receiver="d")])
        self.assertEqual(books(made), before)

    def test_another_or_nobody_is_who_and_it_rests(self):
        made = keeper("one")
        made.take(told(1, 0, "c", 30, "two"), 0)
        made.alone(0)
        # The since of 1 is 58, that of 3 is 28.
        self.assert_nothing(made, renew(3, "d"), 27)
        self.assertEqual(made.take(renew(3, "d"), 28), [deny(3, receiver="d")])
        self.assert_nothing(made, renew(1, "d"), 57)
        self.assertEqual(made.take(renew(1, "d"), 58), [deny(1, receiver="d")])

    def test_spoilt_it_is_not_answered_till_it_rested(self):
        made = keeper("one")
        made.take(want(2), 0)
        made.take(hand_in("spoil", 2, 1), 5)
        self.assert_nothing(made, renew(2), 34)
        self.assertEqual(made.take(renew(2), 35), [deny(2)])

    def test_without_the_title(self):
        made = keeper("one")
        self.assert_nothing(made, renew(1), 0)
        made.take(told(1, 0, "c", 30, "two"), 0)
        for sender in ("c", "d"):
            self.assert_nothing(made, renew(1, sender), 1)

    def test_to_both_and_to_it_by_its_name(self):
        for receiver in ("", "one"):
            made = keeper("one")
            made.take(want(2), 0)
            self.assertEqual(made.take(renew(2, receiver=receiver), 1)[0], grant(2, 20, 2))
        self.assert_nothing(keeper("one"), renew(2, receiver="two"), 1)


class HandedIn(Asked):

    def lent(self):
        """A keeper that lent 2 to c, at 0 and at 5, and 4 to d."""
        made = keeper("one")
        made.take(want(2), 0)
        made.take(want(4, sender="d"), 0)
        made.take(renew(2), 5)
        made.take(seen(2, 0, 20, "two"), 5)
        self.assertEqual(made.entry(2), row(True, 0, "c", 25, 3, seen=20))
        return made

    def test_free(self):
        made = self.lent()
        self.assertEqual(made.take(hand_in("free", 2, 3), 6), [])
        self.assertEqual(made.entry(2), row(True, 0, "", None, 3, seen=20))
        self.assertEqual(made.take(want(2, sender="e"), 6)[0], grant(2, 34, 4, receiver="e"))

    def test_spoil(self):
        made = self.lent()
        self.assertEqual(made.take(hand_in("spoil", 2, 3), 6), [])
        self.assertEqual(made.entry(2), row(True, 0, "", None, 3, seen=20, since=36))

    def test_to_both_keepers(self):
        for kind in ("free", "spoil"):
            made = self.lent()
            made.take(hand_in(kind, 2, 3, receiver=""), 6)
            self.assertEqual(made.entry(2)[2], "")

    def test_by_spoil_since_is_the_greater(self):
        for reading, since in ((0, 78), (40, 78), (48, 78), (49, 79), (78, 108)):
            made = keeper("one")
            made.take(told(1, 0, "c", 50, "two"), 0)
            made.alone(0)
            made.take(renew(1), 0)
            self.assertEqual(made.entry(1), row(True, 2, "c", 60, 1, far=50, since=78))
            made.take(hand_in("spoil", 1, 1), reading)
            self.assertEqual(made.entry(1), row(True, 2, "", None, 1, far=50, since=since))

    def test_by_free_since_stays(self):
        made = keeper("one")
        made.take(told(1, 0, "c", 50, "two"), 0)
        made.alone(0)
        made.take(renew(1), 0)
        made.take(hand_in("free", 1, 1), 100)
        self.assertEqual(made.entry(1), row(True, 2, "", None, 1, far=50, since=78))

    def test_another_who_turn_or_sender(self):
        for kind in ("free", "spoil"):
            made = self.lent()
            for letter in (
                hand_in(kind, 2, 3, who="two"), hand_in(kind, 2, 3, who=""), hand_in(kind, 2, 3, who="c"),
                hand_in(kind, 2, 2), hand_in(kind, 2, 1), hand_in(kind, 2, 4), hand_in(kind, 2, 0),
                hand_in(kind, 2, 3, sender="d"), hand_in(kind, 2, 3, sender="e"), hand_in(kind, 4, 3),
                hand_in(kind, 4, 2), hand_in(kind, 2, 3, receiver="two"), hand_in(kind, 6, 0),
            ):
                self.assert_nothing(made, letter, 6)

    def test_twice(self):
        for kind in ("free", "spoil"):
            made = self.lent()
            made.take(hand_in(kind, 2, 3), 6)
            self.assert_nothing(made, hand_in(kind, 2, 3), 7)
            made = self.lent()
            made.take(hand_in("free", 2, 3), 6)
            made.take(want(2, sender="d"), 6)
            self.assert_nothing(made, hand_in(kind, 2, 3), 7)

    def test_without_the_title(self):
        for kind in ("free", "spoil"):
            made = keeper("one")
            made.take(told(1, 0, "c", 30, "two"), 0)
            for turn in (0, 1):
                self.assert_nothing(made, hand_in(kind, 1, turn), 1)

    def test_turn_nought_is_no_turn(self):
        for kind in ("free", "spoil"):
            made = keeper("one")
            made.take(told(1, 0, "c", 30, "two"), 0)
            made.alone(0)
            self.assertEqual(made.entry(1)[:5], (True, 2, "c", None, 0))
            self.assert_nothing(made, hand_in(kind, 1, 0), 1)

    def test_marks_are_not_looked_at(self):
        made = self.lent()
        made.take(hand_in("free", 2, 3, mark=77), 6)
        self.assertEqual(made.entry(2), row(True, turn=3, seen=20))


class Nothing(Asked):

    def lent(self, state):
        made = keeper("one")
        made.take(want(2), 0)
        made.take(told(1, 0, "c", 30, "two"), 0)
        if state == "alone":
            made.alone(0)
        elif state == "back":
            made.start()
        return made

    def asked(self, **named):
        """One letter of each kind that an asker sends, each of which means something but for what is named."""
        return [
            find(**named), want(**{"number": 2, **named}), renew(**{"number": 2, **named}),
            *[hand_in(kind, **{"number": 2, "turn": 1, "receiver": "one", **named}) for kind in ("free", "spoil")],
        ]

    def test_they_mean_something(self):
        for state in SERVING:
            for letter in self.asked():
                made, other = self.lent(state), self.lent(state)
                self.assertTrue(made.take(letter, 5) or books(made) != books(other))

    def test_from_a_keeper(self):
        for state, sender in itertools.product(SERVING, ("one", "two")):
            for letter in self.asked(sender=sender) + self.asked(sender=sender, receiver="one"):
                self.assert_nothing(self.lent(state), letter, 5)
                made = keeper_in(state)
                self.assert_nothing(made, letter, 5)

    def test_to_another_receiver(self):
        for state, receiver in itertools.product(SERVING, ("two", "c", "d", "r")):
            for letter in self.asked(receiver=receiver):
                self.assert_nothing(self.lent(state), letter, 5)

    def test_of_another_link(self):
        for state, link in itertools.product(SERVING, ("", "q", "c", "one", "ll")):
            for letter in self.asked(link=link):
                self.assert_nothing(self.lent(state), letter, 5)

    def test_with_a_number_that_is_not_in_the_links_pool(self):
        for state, link in itertools.product(SERVING, ("k", "m")):
            for letter in self.asked(link=link)[1:]:
                self.assert_nothing(self.lent(state), letter, 5)
        for state, number in itertools.product(SERVING, (None, 0, 7, 11, 20, 999999)):
            for letter in self.asked(number=number)[1:]:
                self.assert_nothing(self.lent(state), letter, 5)

    def test_of_another_kind(self):
        for state, kind in itertools.product(SERVING, KINDS):
            if kind not in ("find", "want", "renew", "free", "spoil"):
                for receiver in ("", "one"):
                    self.assert_nothing(self.lent(state), heavy(kind, receiver=receiver), 5)
                    self.assert_nothing(self.lent(state), heavy(kind, receiver=receiver, number=1, count=7), 5)
                    self.assert_nothing(self.lent(state), heavy(kind, receiver=receiver, turn=1), 5)

    def test_one_that_is_back_takes_none(self):
        for receiver in ("", "one"):
            for letter in self.asked(receiver=receiver):
                self.assert_nothing(self.lent("back"), letter, 5)
        made = self.lent("back")
        made.take(want(4), 5)
        made.take(Letter("books", "two", "one", mark=1), 6)
        # No turn was spent meanwhile.
        self.assertEqual(made.take(renew(2), 6)[0].turn, 2)

    def test_nothing_spends_no_turn(self):
        made = keeper("one")
        for letter in (want(1), want(2, "two"), renew(2), find(), hand_in("free", 2, 1)):
            made.take(letter, 0)
        self.assertEqual(made.take(want(2), 0)[0].turn, 1)

    def test_alone_it_tells_nobody(self):
        made = self.lent("alone")
        self.assertEqual(made.take(renew(2), 5), [grant(2, 60, 2)])
        self.assertEqual(made.take(back(1, "two"), 5)[0].kind, "books")
        self.assertEqual(made.take(renew(2), 6), [grant(2, 59, 3), told(2, 0, "c", 65)])


if __name__ == "__main__":
    unittest.main()
