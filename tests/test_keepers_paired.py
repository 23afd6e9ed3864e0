"""Points 16 to 18: told, seen and give between the keepers, the deeds give and alone."""

import itertools
import unittest

from leasepair.errors import NoDeed
from leasepair.letters import Letter

from tests.helpers import BIG, KINDS, refused, told_fields
from tests.keeping import NUMBERS, OF_ONE, OF_TWO, STATES
from tests.keeping import back, books, find, give, grant, hand_in, keeper, keeper_in, renew, row, seen, told, want


class Paired(unittest.TestCase):

    def assert_nothing(self, made, letter, reading=0):
        before = books(made)
        with self.subTest(letter=letter):
            self.assertEqual(made.take(letter, reading), [])
            self.assertEqual(books(made), before)


def counted(count, name="one"):
    """A keeper without the title of 2 or 1, whose count is this odd one."""
    made = keeper(name)
    other = "two" if name == "one" else "one"
    number = 2 if name == "one" else 1
    while made.entry(number)[1] < count:
        if not made.entry(number)[0]:
            made.take(give(number, made.entry(number)[1] + 1, other), 0)
        made.give(number, 0)
    return made


class Told(Paired):

    def test_a_first_one(self):
        for end in (0, -5, 30, BIG, -BIG):
            made = keeper("one")
            self.assertEqual(made.take(told(1, 0, "c", end, "two"), 7), [seen(1, 0, end)])
            self.assertEqual(made.entry(1), row(False, who="c", far=end))
        made = keeper("two")
        self.assertEqual(made.take(told(2, 0, "c", 30), 7), [seen(2, 0, 30, "two")])

    def test_ends_below_alike_and_above(self):
        for end, who, far in ((29, "c", 30), (-5, "c", 30), (30, "d", 30), (31, "d", 31)):
            made = keeper("one")
            made.take(told(1, 0, "c", 30, "two"), 0)
            # Whatever it knows, it has seen this one.
            self.assertEqual(made.take(told(1, 0, "d", end, "two"), 0), [seen(1, 0, end)])
            self.assertEqual(made.entry(1), row(False, who=who, far=far))

    def test_of_nobody(self):
        made = keeper("one")
        made.take(told(1, 0, "c", 30, "two"), 0)
        made.take(told(1, 0, "", 31, "two"), 0)
        self.assertEqual(made.entry(1), row(False, who="", far=31))

    def test_counts_below_alike_and_above(self):
        made = counted(3)
        for count in (0, 1, 2, 4, 5, BIG):
            self.assert_nothing(made, told(2, count, "c", 30, "two"))
        self.assertEqual(made.take(told(2, 3, "c", 30, "two"), 0), [seen(2, 3, 30)])
        self.assertEqual(made.entry(2), row(False, 3, "c", far=30))

    def test_without_an_end(self):
        self.assert_nothing(keeper("one"), told(1, 0, "c", None, "two"))

    def test_with_the_title(self):
        made = keeper("one")
        self.assert_nothing(made, told(2, 0, "c", 30, "two"))
        made.take(want(2), 0)
        self.assert_nothing(made, told(2, 0, "d", 30, "two"))

    def test_doubled(self):
        made = keeper("one")
        for step in range(3):
            self.assertEqual(made.take(told(1, 0, "c", 30, "two"), step), [seen(1, 0, 30)])
        self.assertEqual(made.entry(1), row(False, who="c", far=30))

    def test_just_these_fields_go_back(self):
        letter = Letter(
            "told", "two", "one", mark=4, number=1, span=5, turn=6, count=0, end=30, who="c", link="x", via=("r",),
            rows=((1, 5, True, "e", 9),),
        )
        kept = told_fields(letter)
        made = keeper("one")
        self.assertEqual(made.take(letter, 0), [Letter("seen", "one", "two", number=1, end=30)])
        self.assertEqual(made.entry(1), row(False, who="c", far=30))
        self.assertEqual(told_fields(letter), kept)


class Seen(Paired):

    def test_ends_below_alike_and_above(self):
        made = keeper("one")
        for end, known in ((-7, -7), (-8, -7), (0, 0), (30, 30), (29, 30), (30, 30), (31, 31), (BIG, BIG), (-BIG, BIG)):
            self.assertEqual(made.take(seen(2, 0, end, "two"), 0), [])
            self.assertEqual(made.entry(2), row(True, seen=known))

    def test_counts_below_alike_and_above(self):
        made = keeper("one")
        made.take(give(1, 3, "two"), 0)
        for count in (0, 1, 2, 4, 5, BIG):
            self.assert_nothing(made, seen(1, count, 30, "two"))
        made.take(seen(1, 3, 30, "two"), 0)
        self.assertEqual(made.entry(1), row(True, 3, seen=30))

    def test_without_an_end(self):
        made = keeper("one")
        self.assert_nothing(made, seen(2, 0, None, "two"))
        made.take(seen(2, 0, 30, "two"), 0)
        self.assert_nothing(made, seen(2, 0, None, "two"))

    def test_without_the_title(self):
        made = keeper("one")
        self.assert_nothing(made, seen(1, 0, 30, "two"))
        made.take(told(1, 0, "c", 30, "two"), 0)
        self.assert_nothing(made, seen(1, 0, 30, "two"))

    def test_what_is_lent_stays(self):
        made = keeper("one")
        made.take(want(2), 0)
        made.take(seen(2, 0, 20, "two"), 0)
        self.assertEqual(made.entry(2), row(True, 0, "c", 20, 1, seen=20))
        self.assertEqual(made.take(renew(2), 1), [grant(2, 39, 2), told(2, 0, "c", 40)])


class Given(Paired):

    def test_a_greater_count(self):
        for count in (1, 2, 5, BIG):
            made = keeper("one")
            made.take(told(1, 0, "c", 30, "two"), 0)
            self.assertEqual(made.take(give(1, count, "two"), 0), [])
            self.assertEqual(made.entry(1), row(True, count))

    def test_counts_below_and_alike(self):
        made = counted(3)
        made.take(told(2, 3, "c", 30, "two"), 0)
        for count in (0, 1, 2, 3):
            self.assert_nothing(made, give(2, count, "two"))
        made.take(give(2, 4, "two"), 0)
        self.assertEqual(made.entry(2), row(True, 4))
        self.assert_nothing(keeper("one"), give(1, 0, "two"))

    def test_with_the_title(self):
        made = keeper("one")
        for count in (0, 1, 5):
            self.assert_nothing(made, give(2, count, "two"))
            self.assert_nothing(made, Letter("give", "two", "one", number=2, count=count, end=30, who="c"))
        made.take(give(1, 1, "two"), 0)
        made.take(want(1), 0)
        for count in (1, 2):
            self.assert_nothing(made, give(1, count, "two"))
        self.assertEqual(made.entry(1), row(True, 1, "c", 20, 1))

    def test_all_other_parts_are_as_at_first(self):
        made = keeper("one")
        made.take(told(1, 0, "c", 30, "two"), 0)
        made.alone(0)
        made.take(renew(1), 1)
        made.take(back(1, "two"), 2)
        self.assertEqual(made.entry(1), row(True, 2, "c", 61, 1, far=30, since=58))
        made.take(hand_in("free", 1, 1), 3)
        made.take(seen(1, 2, 61, "two"), 3)
        self.assertEqual(made.give(1, 58), [give(1, 3)])
        self.assertEqual(made.entry(1), row(False, 3))
        made.take(told(1, 3, "d", 90, "two"), 60)
        made.take(give(1, 4, "two"), 99)
        self.assertEqual(made.entry(1), row(True, 4))


class BetweenKeepers(Paired):

    def some(self, number=1, **named):
        """Letters that mean something to keeper one while it is paired, but for what is named."""
        fields = {"sender": "two", "receiver": "one", "number": number, **named}
        return [
            Letter("told", count=0, who="c", end=30, **fields),
            Letter("give", count=1, **fields),
            Letter("seen", count=0, end=30, **{**fields, "number": 2 if number == 1 else number}),
        ]

    def test_they_mean_something(self):
        for letter in self.some():
            made = keeper("one")
            made.take(letter, 0)
            self.assertNotEqual(books(made), books(keeper("one")))

    def test_not_to_it_by_its_name(self):
        for receiver in ("", "two", "c"):
            for letter in self.some(receiver=receiver) + [Letter("back", "two", receiver, mark=1)]:
                self.assert_nothing(keeper("one"), letter)

    def test_not_from_the_other_keeper(self):
        for sender in ("one", "c", "r"):
            for letter in self.some(sender=sender) + [Letter("back", sender, "one", mark=1)]:
                self.assert_nothing(keeper("one"), letter)

    def test_of_a_number_that_it_has_not(self):
        for number in (None, 0, 7, 9, 13, 21, 999999):
            for letter in self.some(number):
                self.assert_nothing(keeper("one"), letter)

    def test_the_link_is_not_looked_at(self):
        for link in ("", "l", "k", "x"):
            for letter in self.some(link=link):
                made = keeper("one")
                made.take(letter, 0)
                self.assertNotEqual(books(made), books(keeper("one")))

    def test_taken_by_one_that_is_paired_alone(self):
        for state in ("alone", "back"):
            for number, count in itertools.product((1, 2), (0, 1, 2, 3)):
                for letter in (
                    told(number, count, "c", 30, "two"), seen(number, count, 30, "two"), give(number, count, "two")
                ):
                    self.assert_nothing(keeper_in(state), letter)

    def test_back_takes_none_of_them_either_where_it_would_have_been_paired(self):
        for letter in self.some():
            made = keeper_in("back")
            self.assert_nothing(made, letter)
            self.assertEqual(made.state(), "back")

    def test_all_other_kinds(self):
        for state, kind in itertools.product(STATES, KINDS):
            if kind not in ("told", "seen", "give", "back"):
                for number, count in itertools.product((1, 2, 7, None), (0, 1, 2)):
                    letter = Letter(
                        kind, "two", "one", number=number, span=9, turn=1, count=count, end=30, who="one", link="l",
                        rows=((1, 9, False, "", 5),),
                    )
                    self.assert_nothing(keeper_in(state), letter)


class GiveAway(Paired):

    def test_a_free_number(self):
        for name, own in (("one", OF_ONE), ("two", OF_TWO)):
            made = keeper(name)
            for number in own:
                self.assertEqual(made.give(number, 0), [give(number, 1, name)])
                self.assertEqual(made.entry(number), row(False, 1))
            self.assertEqual([made.entry(number) for number in NUMBERS], [
                row(False, 1 if number in own else 0) for number in NUMBERS
            ])

    def test_the_rest_is_as_at_first(self):
        made = keeper("one")
        made.take(want(2), 0)
        made.take(seen(2, 0, 20, "two"), 0)
        made.take(hand_in("spoil", 2, 1), 1)
        self.assertEqual(made.entry(2), row(True, turn=1, seen=20, since=31))
        self.assertEqual(refused(self, NoDeed, made.give, 2, 30).word, "give")
        self.assertEqual(made.entry(2), row(True, turn=1, seen=20, since=31))
        self.assertEqual(made.give(2, 31), [give(2, 1)])
        self.assertEqual(made.entry(2), row(False, 1))

    def test_one_that_is_lent(self):
        made = keeper("one")
        made.take(want(2), 0)
        for reading in (0, 20, 27):
            before = books(made)
            self.assertEqual(refused(self, NoDeed, made.give, 2, reading).word, "give")
            self.assertEqual(books(made), before)
        self.assertEqual(made.give(2, 28), [give(2, 1)])
        self.assertEqual(made.entry(2), row(False, 1))

    def test_one_that_was_taken_over(self):
        made = keeper("one")
        made.take(told(1, 0, "c", 50, "two"), 0)
        made.alone(0)
        made.take(back(1, "two"), 0)
        self.assertEqual(refused(self, NoDeed, made.give, 1, 77).word, "give")
        self.assertEqual(made.give(1, 78), [give(1, 3)])
        self.assertEqual(made.entry(1), row(False, 3))

    def test_without_the_title(self):
        made = keeper("one")
        for number in OF_TWO:
            self.assertEqual(refused(self, NoDeed, made.give, number, 0).word, "give")
        made.give(2, 0)
        self.assertEqual(refused(self, NoDeed, made.give, 2, 0).word, "give")
        self.assertEqual(made.entry(2), row(False, 1))

    def test_in_other_states(self):
        for state in ("alone", "back"):
            made = keeper_in(state)
            before = books(made)
            for number in NUMBERS:
                self.assertEqual(refused(self, NoDeed, made.give, number, 100).word, "give")
            self.assertEqual(books(made), before)

    def test_there_and_back(self):
        one, two = keeper("one"), keeper("two")
        for step in range(5):
            two.take(one.give(2, step)[0], step)
            self.assertEqual((one.entry(2), two.entry(2)), (row(False, 2 * step + 1), row(True, 2 * step + 1)))
            one.take(two.give(2, step)[0], step)
            self.assertEqual((one.entry(2), two.entry(2)), (row(True, 2 * step + 2), row(False, 2 * step + 2)))

    def test_the_given_one_is_lent_by_the_other(self):
        one, two = keeper("one"), keeper("two")
        one.take(want(2), 0)
        letter, = one.give(2, 28)
        self.assertEqual([made.take(find(), 28)[0].number for made in (one, two)], [4, 1])
        two.take(letter, 28)
        self.assertEqual(two.take(want(2, "two", "d"), 28)[0], grant(2, 20, 1, "two", receiver="d"))
        self.assertEqual(one.take(want(2), 28)[0].kind, "deny")


class Alone(Paired):

    def test_since_by_the_reading_and_by_far(self):
        for far, reading, since in (
            (None, 10, 38), (9, 10, 38), (10, 10, 38), (11, 10, 39), (-5, -9, 23), (500, 10, 528), (-8, -10, 20),
        ):
            made = keeper("one")
            if far is not None:
                made.take(told(1, 0, "c", far, "two"), -10)
            self.assertEqual(made.alone(reading), [])
            self.assertEqual(made.entry(1), row(True, 2, "" if far is None else "c", far=far, since=since))
            self.assertEqual(made.entry(3), row(True, 2, since=reading + 28))

    def test_the_wait_is_the_settings(self):
        for wait in (0, 1, 999999):
            made = keeper("one", wait=wait)
            made.alone(5)
            self.assertEqual(made.entry(1)[7], 5 + wait)

    def test_each_number_whose_title_it_has_not(self):
        for name, own in (("one", OF_ONE), ("two", OF_TWO)):
            made = keeper_in("alone", name, reading=4)
            self.assertEqual(made.state(), "alone")
            for number in NUMBERS:
                self.assertEqual(made.entry(number), row(True) if number in own else row(True, 2, since=32))

    def test_those_whose_title_it_has_stay(self):
        made = keeper("one")
        made.take(want(2), 0)
        made.take(seen(2, 0, 20, "two"), 0)
        made.take(want(4, sender="d"), 0)
        made.take(hand_in("spoil", 4, 2, sender="d"), 1)
        before = [made.entry(number) for number in OF_ONE]
        made.alone(2)
        self.assertEqual([made.entry(number) for number in OF_ONE], before)

    def test_the_count_is_two_more(self):
        made = counted(3)
        made.alone(0)
        self.assertEqual(made.entry(2), row(True, 5, since=28))

    def test_from_paired_only(self):
        for state in ("alone", "back"):
            made = keeper_in(state)
            before = books(made)
            self.assertEqual(refused(self, NoDeed, made.alone, 50).word, "alone")
            self.assertEqual(books(made), before)

    def test_a_second_time_it_has_all_titles_already(self):
        made = keeper_in("alone")
        before = books(made)
        made.take(back(1, "two"), 50)
        self.assertEqual(books(made), ["paired"] + before[1:])
        self.assertEqual(made.alone(90), [])
        self.assertEqual(books(made), before)


if __name__ == "__main__":
    unittest.main()
