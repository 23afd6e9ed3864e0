"""Point 8: relays, the way of a letter through them and back."""

import itertools
import unittest

from leasepair import relays
from leasepair.errors import NoPath, TooFar
from leasepair.letters import Letter
from leasepair.relays import Relay, brought_by, passed_by

from tests.helpers import THINGS, assert_same, refused, told_fields

FULL = {
    "mark": 1, "number": 2, "span": 3, "turn": 4, "count": 5, "end": -6, "who": "d",
    "rows": ((7, 8, True, "d", 9), (1, 0, False, "", None)),
}
OTHERS = ("a", "b", "e", "f")


def full(link="", via=()):
    return Letter("want", "c", "two", link=link, via=via, **FULL)


def vias_with(name):
    """All ways of at most four names in which the name stands at one place."""
    return [
        OTHERS[:at] + (name,) + OTHERS[at:many - 1]
        for many in range(1, 5) for at in range(many)
    ]


class Fields(unittest.TestCase):

    def test_the_most(self):
        self.assertEqual(relays.MOST, 4)

    def test_name_and_link(self):
        relay = Relay("r", link="l")
        self.assertEqual((relay.name, relay.link), ("r", "l"))
        relay = Relay("abcdefgh", link="zyxwvuts", most=1)
        self.assertEqual((relay.name, relay.link), ("abcdefgh", "zyxwvuts"))
        relay = Relay(most=2, link="k", name="s")
        self.assertEqual((relay.name, relay.link), ("s", "k"))

    def test_link_and_most_by_their_names_alone(self):
        with self.assertRaises(TypeError):
            Relay("r", "l")
        with self.assertRaises(TypeError):
            Relay("r", "l", 4)
        with self.assertRaises(TypeError):
            Relay("r")

    def test_unlike_other_things(self):
        relay = Relay("r", link="l")
        for thing in THINGS + [Letter("find", "c")]:
            assert_same(self, relay, thing, False)
        self.assertIs(bool(relay), True)


class PassedOn(unittest.TestCase):

    def test_ways_of_none_to_four_names_by_each_most(self):
        for most, many, link in itertools.product((1, 2, 3, 4, None), range(5), ("", "k", "l")):
            relay = Relay("r", link="l") if most is None else Relay("r", link="l", most=most)
            letter = full(link, OTHERS[:many])
            with self.subTest(most=most, many=many, link=link):
                if many < (most or 4):
                    passed = relay.passed_on(letter)
                    self.assertEqual(told_fields(passed), told_fields(full(link or "l", OTHERS[:many] + ("r",))))
                else:
                    self.assertEqual(refused(self, TooFar, relay.passed_on, letter).most, most or 4)
                self.assertEqual(told_fields(letter), told_fields(full(link, OTHERS[:many])))

    def test_its_own_name_on_the_way(self):
        for most, via in itertools.product((1, 2, 3, 4), vias_with("r")):
            with self.subTest(most=most, via=via):
                # Where the way is too long besides, NoPath stands first.
                error = refused(self, NoPath, Relay("r", link="l", most=most).passed_on, full("l", via))
                self.assertEqual(error.name, "r")

    def test_names_that_have_its_name_in_them(self):
        self.assertEqual(Relay("r", link="l").passed_on(full("l", ("rr", "ar"))).via, ("rr", "ar", "r"))
        self.assertEqual(Relay("rr", link="l").passed_on(full("l", ("r",))).via, ("r", "rr"))

    def test_every_kind_and_either_receiver(self):
        relay = Relay("r", link="l")
        for kind, receiver in itertools.product(("find", "renew", "free", "grant", "books"), ("", "one", "two", "d")):
            self.assertEqual(
                relay.passed_on(Letter(kind, "c", receiver)), Letter(kind, "c", receiver, link="l", via=("r",))
            )

    def test_the_letter_by_its_name(self):
        self.assertEqual(Relay("r", link="l").passed_on(letter=full()), full("l", ("r",)))

    def test_the_same_question_has_the_same_answer(self):
        relay = Relay("r", link="l", most=1)
        for step in range(3):
            self.assertEqual(relay.passed_on(full()), full("l", ("r",)))
            refused(self, TooFar, relay.passed_on, full("", ("a",)))
            refused(self, NoPath, relay.passed_on, full("", ("r",)))
        self.assertEqual((relay.name, relay.link), ("r", "l"))


class BroughtBack(unittest.TestCase):

    def test_the_last_name_is_taken_off(self):
        for many, link in itertools.product(range(4), ("", "k", "l")):
            letter = full(link, OTHERS[:many] + ("r",))
            back = Relay("r", link="l", most=1).brought_back(letter)
            self.assertEqual(told_fields(back), told_fields(full(link, OTHERS[:many])))
            self.assertEqual(letter.via, OTHERS[:many] + ("r",))

    def test_another_name_is_last(self):
        ways = [(), ("a",), ("rr",), ("a", "b"), ("a", "b", "e", "f")]
        ways += [via for via in vias_with("r") if via[-1] != "r"]
        for via in ways:
            with self.subTest(via=via):
                self.assertEqual(refused(self, NoPath, Relay("r", link="l").brought_back, full("l", via)).name, "r")

    def test_only_the_last_of_two_alike_is_taken_off(self):
        self.assertEqual(Relay("r", link="l").brought_back(letter=full("l", ("r", "a", "r"))).via, ("r", "a"))
        self.assertEqual(Relay("r", link="l").brought_back(full("l", ("r", "r"))).via, ("r",))


def some_relays(names, mosts=None):
    return tuple(
        Relay(name, link="l" + name, most=4 if mosts is None else mosts[at]) for at, name in enumerate(names)
    )


class ByTheWay(unittest.TestCase):

    def test_none_to_four_relays(self):
        for many, link in itertools.product(range(5), ("", "k")):
            letter = full(link)
            way = some_relays(OTHERS[:many])
            passed = passed_by(way, letter)
            self.assertEqual(passed, full(link or ("la" if many else ""), OTHERS[:many]))
            self.assertEqual(letter, full(link))
            self.assertEqual(brought_by(way, passed), full(passed.link))
            self.assertEqual(passed.via, OTHERS[:many])

    def test_in_order_and_back_from_the_last_to_the_first(self):
        way = some_relays(("a", "b", "e"))
        self.assertEqual(passed_by(way, full("", ("f",))), full("la", ("f", "a", "b", "e")))
        self.assertEqual(brought_by(way, full("", ("f", "a", "b", "e"))), full("", ("f",)))
        self.assertEqual(refused(self, NoPath, brought_by, way, full("", ("e", "b", "a"))).name, "e")

    def test_five_and_six_relays_are_too_many(self):
        for names in (("a", "b", "e", "f", "g"), ("a", "b", "e", "f", "g", "h")):
            self.assertEqual(refused(self, TooFar, passed_by, some_relays(names), full()).most, 4)
            self.assertEqual(refused(self, NoPath, brought_by, some_relays(names), full("", OTHERS)).name, names[-1])

    def test_the_same_name_twice(self):
        for names, twice in (("aa", "a"), ("abaefg", "a"), ("abefb", "b")):
            self.assertEqual(refused(self, NoPath, passed_by, some_relays(names), full()).name, twice)
        self.assertEqual(brought_by(some_relays(("a", "b", "a")), full("", ("a", "b", "a"))), full())

    def test_refused_in_the_middle_as_the_first_on_the_way_refuses(self):
        way = some_relays(("a", "b", "e", "a", "b"), (4, 4, 2, 1, 3))
        self.assertEqual(refused(self, TooFar, passed_by, way, full()).most, 2)
        way = some_relays(("a", "b", "a", "e", "f"), (4, 4, 1, 1, 1))
        self.assertEqual(refused(self, NoPath, passed_by, way, full()).name, "a")
        way = some_relays(("a", "b", "e"), (3, 3, 3))
        self.assertEqual(refused(self, NoPath, passed_by, way, full("", ("b",))).name, "b")
        self.assertEqual(refused(self, TooFar, passed_by, way, full("", ("f",))).most, 3)
        self.assertEqual(refused(self, NoPath, brought_by, way, full("", ("a", "f", "e"))).name, "b")
        self.assertEqual(refused(self, NoPath, brought_by, way, full("", ("b", "e"))).name, "a")

    def test_nothing_that_is_handed_in_is_changed(self):
        way = some_relays(("a", "b", "a"))
        kept = tuple(way)
        letter = full("k", ("e",))
        refused(self, NoPath, passed_by, way, letter)
        refused(self, NoPath, brought_by, way, letter)
        self.assertEqual(told_fields(letter), told_fields(full("k", ("e",))))
        self.assertEqual(way, kept)
        self.assertEqual([(relay.name, relay.link) for relay in way], [("a", "la"), ("b", "lb"), ("a", "la")])

    def test_by_names(self):
        way = some_relays(("a", "b"))
        self.assertEqual(passed_by(letter=full(), relays=way), full("la", ("a", "b")))
        self.assertEqual(brought_by(letter=full("", ("a", "b")), relays=way), full())

    def test_what_went_there_comes_back(self):
        for many in range(5):
            for names in itertools.permutations(OTHERS, many):
                way = some_relays(names)
                there = passed_by(way, Letter("find", "c", mark=3))
                answer = Letter("offer", "one", "c", mark=3, number=7, link=there.link, via=there.via)
                back = brought_by(way, answer)
                self.assertEqual(back, Letter("offer", "one", "c", mark=3, number=7, link=there.link))


if __name__ == "__main__":
    unittest.main()
