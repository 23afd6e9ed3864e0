"""Points 19 and 20: a keeper that starts, asks for the other's books and takes them; what is said again."""

import itertools
import unittest

from leasepair.letters import Letter
from leasepair.pools import Pool

from tests.helpers import BIG, KINDS, told_fields
from tests.keeping import NUMBERS, OF_ONE, OF_TWO, STATES
from tests.keeping import back, books, books_letter, find, give, hand_in, keeper, keeper_in, renew, row, seen, told
from tests.keeping import want


def first_rows(own):
    return tuple((number, 0, number in own, "", None) for number in NUMBERS)


class Start(unittest.TestCase):

    def test_in_each_state(self):
        for name in ("one", "two"):
            made = keeper_in("paired", name)
            self.assertEqual(made.start(), [back(1, name)])
            self.assertEqual(made.state(), "back")
            self.assertEqual(made.start(), [back(2, name)])
            self.assertEqual(made.state(), "back")
            made = keeper_in("alone", name)
            before = books(made)
            self.assertEqual(made.start(), [])
            self.assertEqual(books(made), before)

    def test_entries_stay(self):
        made = keeper("one")
        made.take(want(2), 0)
        before = books(made)
        made.start()
        self.assertEqual(books(made), ["back"] + before[1:])

    def test_starts_are_counted(self):
        made = keeper("one")
        sent = made.start() + made.start()
        made.take(books_letter(2, (), "two"), 0)
        self.assertEqual(made.state(), "paired")
        sent += made.start()
        made.take(books_letter(3, (), "two"), 0)
        made.alone(0)
        # Alone it isn't started anew, and that doesn't count.
        sent += made.start() + made.start()
        made.take(back(1, "two"), 0)
        sent += made.start()
        self.assertEqual(sent, [back(mark) for mark in (1, 2, 3, 4)])


class Back(unittest.TestCase):

    def test_answered_in_each_state(self):
        for state, mark in itertools.product(STATES, (0, 1, 7, BIG)):
            made = keeper_in(state)
            before = books(made)
            answers = made.take(back(mark, "two"), 0)
            rows = first_rows(OF_ONE)
            if state == "alone":
                rows = tuple((number, 0 if number in OF_ONE else 2, True, "", None) for number in NUMBERS)
            self.assertEqual(answers, [books_letter(mark, rows)])
            self.assertEqual(books(made), [{"alone": "paired"}.get(state, state)] + before[1:])

    def test_by_keeper_two(self):
        self.assertEqual(keeper("two").take(back(3), 0), [books_letter(3, first_rows(OF_TWO), "two")])

    def test_rows_by_rising_numbers_whatever_the_order_of_the_links(self):
        links = (("k", Pool(((20, 22),))), ("l", Pool(((30, 30), (1, 2)))), ("m", Pool(((10, 10),))))
        answer, = keeper("two", links).take(back(1), 0)
        self.assertEqual([entry[0] for entry in answer.rows], [1, 2, 10, 20, 21, 22, 30])
        self.assertEqual([entry[2] for entry in answer.rows], [True, False, True, True, False, True, True])

    def test_the_end_is_the_greater_of_end_and_far(self):
        for far, known in ((-5, 70), (50, 70), (69, 70), (70, 70), (71, 71), (500, 500)):
            made = keeper("one")
            made.take(told(1, 0, "c", far, "two"), 0)
            made.alone(0)
            made.take(renew(1), 10)
            self.assertEqual(made.entry(1)[3], 70)
            answer, = made.take(back(1, "two"), 30)
            self.assertEqual(answer.rows[0], (1, 2, True, "c", known))

    def test_the_end_where_one_of_end_and_far_is_told_or_none(self):
        made = keeper("one")
        made.take(told(1, 0, "c", -9, "two"), 0)
        made.take(want(2), 0)
        answer, = made.take(back(1, "two"), 0)
        self.assertEqual([entry[4] for entry in answer.rows[:3]], [-9, 20, None])

    def test_entries_that_are_told(self):
        made = keeper("one")
        made.take(want(2), 0)
        made.take(seen(2, 0, 99, "two"), 0)
        made.take(told(1, 0, "d", -4, "two"), 0)
        made.give(4, 0)
        answer, = made.take(back(6, "two"), 0)
        self.assertEqual(answer, books_letter(6, (
            (1, 0, False, "d", -4), (2, 0, True, "c", 20), (3, 0, False, "", None), (4, 1, False, "", None),
            (5, 0, False, "", None), (6, 0, True, "", None), (10, 0, False, "", None), (11, 0, True, "", None),
            (12, 0, False, "", None), (20, 0, True, "", None),
        )))

    def test_its_number_and_the_rest_are_not_looked_at(self):
        for number in (None, 1, 7):
            letter = Letter(
                "back", "two", "one", mark=3, number=number, span=1, turn=2, count=3, end=4, who="c", link="x",
                via=("r",), rows=((1, 9, True, "c", 9),),
            )
            kept = told_fields(letter)
            self.assertEqual(keeper("one").take(letter, 0), [books_letter(3, first_rows(OF_ONE))])
            self.assertEqual(told_fields(letter), kept)

    def test_sixty_numbers(self):
        answer, = keeper("one", (("l", Pool(((0, 59),))),)).take(back(1, "two"), 0)
        self.assertEqual(len(answer.rows), 60)

    def test_alone_no_more_it_lends_as_one_that_is_paired(self):
        made = keeper_in("alone")
        made.take(back(1, "two"), 0)
        self.assertEqual([letter.kind for letter in made.take(want(2), 0)], ["grant", "told"])
        self.assertEqual(made.entry(2)[3], 20)


class Books(unittest.TestCase):

    def one_back(self):
        """Keeper one, back for the second time, that lent 2 to c and knows of 1, lent to d by two."""
        made = keeper("one")
        made.take(want(2), 0)
        made.take(seen(2, 0, 20, "two"), 0)
        made.take(told(1, 0, "d", 30, "two"), 0)
        made.start()
        made.start()
        return made

    def assert_rows(self, rows, **entries):
        made = self.one_back()
        before = {number: made.entry(number) for number in NUMBERS}
        letter = books_letter(2, rows, "two")
        kept = told_fields(letter)
        self.assertEqual(made.take(letter, 5), [])
        self.assertEqual(told_fields(letter), kept)
        self.assertEqual(made.state(), "paired")
        for number in NUMBERS:
            with self.subTest(rows=rows, number=number):
                self.assertEqual(made.entry(number), entries.get(f"n{number}", before[number]))

    def test_no_rows(self):
        self.assert_rows(())

    def test_a_greater_count_and_the_title(self):
        self.assert_rows(((2, 2, True, "", None),), n2=row(False, 2))
        self.assert_rows(((2, 1, True, "e", 40),), n2=row(False, 1, "e", far=40))
        self.assert_rows(((2, 1, True, "", 40),), n2=row(False, 1, "", far=40))
        self.assert_rows(((2, 1, True, "e", None),), n2=row(False, 1))
        self.assert_rows(((2, BIG, True, "e", -40),), n2=row(False, BIG, "e", far=-40))
        self.assert_rows(((1, 2, True, "e", 5),), n1=row(False, 2, "e", far=5))

    def test_a_greater_count_without_the_title(self):
        self.assert_rows(((1, 1, False, "", None),), n1=row(True, 1))
        self.assert_rows(((1, 3, False, "e", 40),), n1=row(True, 3))
        self.assert_rows(((2, 2, False, "e", 40),), n2=row(True, 2))

    def test_the_same_count_and_the_title(self):
        self.assert_rows(((1, 0, True, "e", 29),))
        self.assert_rows(((1, 0, True, "e", 30),), n1=row(False, 0, "e", far=30))
        self.assert_rows(((1, 0, True, "e", 31),), n1=row(False, 0, "e", far=31))
        self.assert_rows(((1, 0, True, "e", None),))
        self.assert_rows(((3, 0, True, "e", -9),), n3=row(False, 0, "e", far=-9))

    def test_the_same_count_without_the_title(self):
        self.assert_rows(((2, 0, False, "e", 40),))
        self.assert_rows(((1, 0, False, "e", 40),))

    def test_where_both_have_the_title_the_row_is_heard(self):
        self.assert_rows(((2, 0, True, "e", 40),), n2=row(True, 0, "e", 20, 1, far=40, seen=20))

    def test_a_count_below(self):
        for title, end, count in itertools.product((True, False), (None, 40), (0, 3, 4)):
            made = keeper("one")
            made.take(give(1, 4, "two"), 0)
            made.give(1, 0)
            made.start()
            made.take(books_letter(1, ((1, count, title, "e", end),), "two"), 0)
            self.assertEqual(made.state(), "paired")
            self.assertEqual(made.entry(1), row(False, 5))

    def test_several_rows(self):
        self.assert_rows(
            (
                (1, 0, True, "e", 45), (2, 2, True, "f", 50), (3, 1, False, "", None), (4, 0, False, "", None),
                (10, 2, True, "", None), (20, 7, True, "g", 3),
            ),
            n1=row(False, 0, "e", far=45), n2=row(False, 2, "f", far=50), n3=row(True, 1), n10=row(False, 2),
            n20=row(False, 7, "g", far=3),
        )

    def test_rows_of_other_numbers_are_passed_over(self):
        self.assert_rows(
            ((0, 9, True, "e", 40), (7, 9, False, "e", 40), (999999, 1, True, "", None), (2, 2, True, "f", 50)),
            n2=row(False, 2, "f", far=50),
        )
        self.assert_rows(((7, 9, False, "e", 40),))

    def test_its_own_number_is_not_looked_at(self):
        for number in (1, 2, 7, None):
            made = self.one_back()
            rows = ((2, 2, True, "", None),)
            letter = Letter("books", "two", "one", mark=2, number=number, count=9, end=90, rows=rows)
            self.assertEqual(made.take(letter, 0), [])
            self.assertEqual(made.state(), "paired")
            self.assertEqual((made.entry(1), made.entry(2)), (row(False, 0, "d", far=30), row(False, 2)))

    def test_marks_of_other_starts(self):
        for mark in (0, 1, 3, BIG):
            made = self.one_back()
            before = books(made)
            self.assertEqual(made.take(books_letter(mark, ((2, 2, True, "", None),), "two"), 0), [])
            self.assertEqual(books(made), before)

    def test_not_to_it_by_its_name_or_not_from_the_other(self):
        rows = ((2, 2, True, "", None),)
        for sender, receiver in (("two", ""), ("two", "two"), ("one", "one"), ("c", "one"), ("c", "")):
            made = self.one_back()
            before = books(made)
            self.assertEqual(made.take(Letter("books", sender, receiver, mark=2, rows=rows), 0), [])
            self.assertEqual(books(made), before)

    def test_taken_by_one_that_is_back_only(self):
        for state in ("paired", "alone"):
            for mark in (0, 1, 2):
                made = keeper_in(state)
                before = books(made)
                made.take(books_letter(mark, ((2, 9, True, "", None),), "two"), 0)
                self.assertEqual(books(made), before)
        made = self.one_back()
        made.take(books_letter(2, (), "two"), 0)
        before = books(made)
        # Paired again it takes the same books no more.
        made.take(books_letter(2, ((2, 9, True, "", None),), "two"), 0)
        self.assertEqual(books(made), before)

    def test_one_that_is_back_takes_nothing_else(self):
        for kind in KINDS:
            if kind not in ("back", "books"):
                for sender, receiver in (("two", "one"), ("c", "one"), ("c", "")):
                    made = self.one_back()
                    before = books(made)
                    letter = Letter(
                        kind, sender, receiver, mark=2, number=2, turn=1, count=1, end=90, who="one", link="l",
                        rows=((2, 9, True, "", None),),
                    )
                    self.assertEqual(made.take(letter, 0), [])
                    self.assertEqual(books(made), before)


class Again(unittest.TestCase):

    def test_one_that_is_back(self):
        made = keeper("two")
        made.start()
        for step in range(3):
            self.assertEqual(made.again(), [back(1, "two")])
        made.start()
        self.assertEqual(made.again(), [back(2, "two")])
        self.assertEqual(made.state(), "back")
        self.assertEqual(made.start(), [back(3, "two")])

    def test_one_that_is_alone(self):
        made = keeper("one")
        made.take(want(2), 0)
        made.give(4, 0)
        made.alone(0)
        before = books(made)
        self.assertEqual(made.again(), [])
        self.assertEqual(books(made), before)

    def test_one_that_is_paired_at_first(self):
        self.assertEqual(keeper("one").again(), [])
        self.assertEqual(keeper("two").again(), [])

    def test_a_told_till_its_end_is_seen(self):
        for known, is_told in ((None, True), (-5, True), (19, True), (20, False), (21, False)):
            made = keeper("one")
            made.take(want(2), 0)
            if known is not None:
                made.take(seen(2, 0, known, "two"), 0)
            before = books(made)
            self.assertEqual(made.again(), [told(2, 0, "c", 20)] if is_told else [])
            self.assertEqual(books(made), before)

    def test_not_of_what_is_lent_to_nobody(self):
        made = keeper("one")
        made.take(want(2), 0)
        made.take(hand_in("free", 2, 1), 0)
        self.assertEqual(made.again(), [])

    def test_not_of_what_the_other_lent(self):
        made = keeper("one")
        made.take(told(1, 0, "c", 30, "two"), 0)
        self.assertEqual(made.again(), [])

    def test_an_end_of_nought(self):
        made = keeper("one")
        made.take(want(2), -20)
        self.assertEqual(made.again(), [told(2, 0, "c", 0)])
        made.take(seen(2, 0, 0, "two"), -20)
        self.assertEqual(made.again(), [])

    def test_gives_with_their_counts(self):
        made = keeper("one")
        made.give(2, 0)
        made.take(give(1, 3, "two"), 0)
        self.assertEqual(made.again(), [give(2, 1)])
        made.give(1, 0)
        self.assertEqual(made.again(), [give(1, 4), give(2, 1)])
        made.take(give(2, 2, "two"), 0)
        self.assertEqual(made.again(), [give(1, 4)])

    def test_by_rising_numbers(self):
        made = keeper("one")
        for number, link in ((20, "k"), (2, "l"), (11, "k")):
            made.take(want(number, link=link), 0)
        for number in (6, 4):
            made.give(number, 0)
        self.assertEqual(made.again(), [
            told(2, 0, "c", 20), give(4, 1), give(6, 1), told(11, 0, "c", 20), told(20, 0, "c", 20),
        ])

    def test_what_was_taken_over_and_lost_again(self):
        one, two = keeper("one"), keeper("two")
        one.alone(0)
        letter, = two.start()
        two.take(one.take(letter, 0)[0], 0)
        self.assertEqual([two.entry(number)[:2] for number in OF_TWO], [(False, 2)] * len(OF_TWO))
        # Its count is above 0 and it hasn't the title: to the other, which has it, this means nothing.
        sent = two.again()
        self.assertEqual(sent, [give(number, 2, "two") for number in OF_TWO])
        before = books(one)
        for letter in sent:
            self.assertEqual(one.take(letter, 0), [])
        self.assertEqual(books(one), before)

    def test_a_lost_give_comes_again(self):
        one, two = keeper("one"), keeper("two")
        one.give(2, 0)
        self.assertEqual((one.entry(2), two.entry(2)), (row(False, 1), row(False)))
        for letter in one.again():
            two.take(letter, 0)
        self.assertEqual(two.entry(2), row(True, 1))
        self.assertEqual(two.take(find(), 0)[0].number, 1)


if __name__ == "__main__":
    unittest.main()
