"""Point 4: what pools tell."""

import random
import unittest

from leasepair.errors import NoNumber, NoPlace
from leasepair.letters import Letter
from leasepair.pools import Pool, pool_read

from tests.helpers import THINGS, WIDE, assert_same, fewest_of, many_singles, numbers_of, refused, some_stretches

TOP = 999999


def some_pools(seed, count):
    source = random.Random(seed)
    for step in range(count):
        stretches = some_stretches(source)
        yield numbers_of(stretches), Pool(stretches)


class Stretches(unittest.TestCase):

    def test_told_are_the_fewest_rising(self):
        cases = (
            ((), ()),
            (((5, 5),), ((5, 5),)),
            (((3, 7), (9, 9)), ((3, 7), (9, 9))),
            (((9, 9), (3, 7)), ((3, 7), (9, 9))),
            (((3, 7), (8, 9)), ((3, 9),)),
            (((8, 9), (3, 7)), ((3, 9),)),
            (((3, 7), (7, 9)), ((3, 9),)),
            (((3, 7), (5, 9)), ((3, 9),)),
            (((3, 9), (5, 6)), ((3, 9),)),
            (((5, 6), (3, 9)), ((3, 9),)),
            (((3, 9), (5, 6), (10, 10)), ((3, 10),)),
            (((3, 7), (3, 7)), ((3, 7),)),
            (((3, 3), (3, 8)), ((3, 8),)),
            (((3, 8), (3, 3)), ((3, 8),)),
            (((1, 1), (2, 2), (3, 3)), ((1, 3),)),
            (((1, 1), (3, 3), (2, 2)), ((1, 3),)),
            (((0, 0), (TOP, TOP)), ((0, 0), (TOP, TOP))),
            (((TOP, TOP), (0, TOP - 1)), ((0, TOP),)),
            (((0, TOP), (4, 5)), ((0, TOP),)),
            (tuple((k * 3, k * 3 + 1) for k in range(20)), tuple((k * 3, k * 3 + 1) for k in range(20))),
            (tuple((k * 3, k * 3 + 2) for k in reversed(range(20))), ((0, 59),)),
        )
        for handed, told in cases:
            with self.subTest(handed=handed):
                self.assertEqual(Pool(handed).stretches(), told)

    def test_any_stretches(self):
        source = random.Random(1)
        for step in range(500):
            handed = some_stretches(source)
            told = Pool(handed).stretches()
            self.assertEqual(told, fewest_of(numbers_of(handed)), handed)

    def test_told_is_a_tuple_of_pairs(self):
        for pool in (Pool(), Pool(((1, 2), (4, 4))), many_singles(30), Pool(((1, 9),)).dealt()[1]):
            self.assertIs(type(pool.stretches()), tuple)
            for pair in pool.stretches():
                self.assertIs(type(pair), tuple)
                self.assertEqual([type(bound) for bound in pair], [int, int])

    def test_nothing_told_is_the_empty_pool(self):
        self.assertEqual(Pool().stretches(), ())
        self.assertEqual(Pool(), Pool(()))
        self.assertEqual(Pool(stretches=((1, 2),)).stretches(), ((1, 2),))


class Numbers(unittest.TestCase):

    def test_len(self):
        cases = ((), 0), (((5, 5),), 1), (((3, 7), (9, 9)), 6), (((3, 7), (5, 9)), 7), (((0, TOP),), TOP + 1)
        for stretches, many in cases:
            self.assertEqual(len(Pool(stretches)), many)
        for numbers, pool in some_pools(2, 200):
            self.assertEqual(len(pool), len(numbers))

    def test_truth_is_that_of_len(self):
        self.assertIs(bool(Pool()), False)
        self.assertIs(bool(Pool(((0, 0),))), True)

    def test_has_beside_each_bound(self):
        pool = Pool(((0, 0), (3, 7), (9, 9), (TOP - 1, TOP)))
        for number in (0, 3, 4, 6, 7, 9, TOP - 1, TOP):
            self.assertIs(pool.has(number), True, number)
        for number in (-1, 1, 2, 8, 10, TOP - 2, TOP + 1, WIDE, -WIDE):
            self.assertIs(pool.has(number), False, number)
        self.assertIs(Pool().has(0), False)
        self.assertIs(pool.has(number=3), True)

    def test_has_of_any_pool(self):
        for numbers, pool in some_pools(3, 100):
            for number in range(-2, 70):
                self.assertIs(pool.has(number), number in numbers)

    def test_places_and_numbers_lead_back(self):
        for numbers, pool in some_pools(4, 200):
            told = [pool.number_at(place) for place in range(len(pool))]
            self.assertEqual(told, sorted(numbers))
            self.assertEqual([pool.place_of(number) for number in told], list(range(len(pool))))

    def test_places_of_all_numbers(self):
        pool = Pool(((0, TOP),))
        self.assertEqual(pool.number_at(0), 0)
        self.assertEqual(pool.number_at(place=TOP), TOP)
        self.assertEqual(pool.place_of(TOP), TOP)
        self.assertEqual(pool.place_of(number=0), 0)

    def test_no_place(self):
        for numbers, pool in list(some_pools(5, 50)) + [(set(), Pool())]:
            many = len(numbers)
            for place in (-1, -2, -many, -many - 1, many, many + 1, WIDE, -WIDE):
                if 0 <= place < many:
                    continue
                error = refused(self, NoPlace, pool.number_at, place)
                self.assertEqual((error.place, error.many), (place, many))

    def test_no_number(self):
        for numbers, pool in list(some_pools(6, 50)) + [(set(), Pool())]:
            for number in list(range(-2, 70)) + [TOP, TOP + 1, WIDE, -WIDE]:
                if number not in numbers:
                    self.assertEqual(refused(self, NoNumber, pool.place_of, number).number, number)


class FirstFrom(unittest.TestCase):

    def test_told_cases(self):
        pool = Pool(((3, 7), (9, 9), (20, 21)))
        cases = (
            ({}, 3), ({"low": -5}, 3), ({"low": -WIDE}, 3), ({"low": 0}, 3), ({"low": 3}, 3), ({"low": 4}, 4),
            ({"low": 7}, 7), ({"low": 8}, 9), ({"low": 9}, 9), ({"low": 10}, 20), ({"low": 21}, 21),
            ({"low": 22}, None), ({"low": WIDE}, None),
            ({"but": (3,)}, 4), ({"but": (4, 3)}, 5), ({"but": (4,)}, 3), ({"but": (3, 3, 4, 4, 3)}, 5),
            ({"but": (7, 6, 5, 4, 3)}, 9), ({"but": (7, 6, 5, 4, 3, 9)}, 20), ({"but": (8, 2, -1, WIDE)}, 3),
            ({"low": 7, "but": (7,)}, 9), ({"low": 7, "but": (9, 7)}, 20), ({"low": 21, "but": (20,)}, 21),
            ({"low": 20, "but": (21, 20)}, None), ({"but": (3, 4, 5, 6, 7, 9, 20, 21)}, None),
        )
        for named, first in cases:
            with self.subTest(named=named):
                self.assertEqual(pool.first_from(**named), first)
        self.assertEqual(pool.first_from(8), 9)
        self.assertEqual(pool.first_from(8, but=(9,)), 20)
        self.assertIs(Pool().first_from(), None)
        self.assertIs(Pool().first_from(-3, but=(1,)), None)

    def test_bounds(self):
        self.assertEqual(Pool(((0, 0),)).first_from(), 0)
        self.assertEqual(Pool(((TOP, TOP),)).first_from(TOP), TOP)
        self.assertIs(Pool(((TOP, TOP),)).first_from(TOP + 1), None)

    def test_but_stands_behind_a_star(self):
        with self.assertRaises(TypeError):
            Pool(((1, 2),)).first_from(0, (1,))

    def test_a_hundred_others(self):
        pool = Pool(((0, 100),))
        self.assertEqual(pool.first_from(but=tuple(range(99, -1, -1))), 100)
        self.assertIs(Pool(((0, 99),)).first_from(but=tuple(range(100))), None)

    def test_any(self):
        source = random.Random(7)
        for numbers, pool in some_pools(7, 300):
            low = source.randrange(-5, 70)
            but = tuple(source.randrange(-3, 70) for step in range(source.randint(0, 100)))
            left = [number for number in numbers if number >= low and number not in but]
            self.assertEqual(pool.first_from(low, but=but), min(left, default=None))


class TwoPools(unittest.TestCase):

    def check(self, one, other, result, numbers):
        self.assertIs(type(result), Pool)
        self.assertEqual(result.stretches(), fewest_of(numbers), (one, other))
        self.assertEqual(len(result), len(numbers))

    def check_all(self, mine, one, theirs, other):
        ahead = one.stretches(), other.stretches()
        self.check(one, other, one.joined(other), mine | theirs)
        self.check(one, other, one.met(other), mine & theirs)
        self.check(one, other, one.without(other), mine - theirs)
        self.assertEqual((one.stretches(), other.stretches()), ahead)

    def test_any_two(self):
        pools = list(some_pools(8, 60)) + [(set(), Pool()), (numbers_of(((0, 70),)), Pool(((0, 70),)))]
        for mine, one in pools:
            for theirs, other in pools[::3] + pools[-2:]:
                self.check_all(mine, one, theirs, other)

    def test_told_cases(self):
        one = Pool(((3, 7), (9, 9)))
        other = Pool(((5, 9), (12, 12)))
        self.assertEqual(one.joined(other).stretches(), ((3, 9), (12, 12)))
        self.assertEqual(one.met(other).stretches(), ((5, 7), (9, 9)))
        self.assertEqual(one.without(other).stretches(), ((3, 4),))
        self.assertEqual(other.without(one).stretches(), ((8, 8), (12, 12)))
        self.assertEqual(one.joined(other=other), other.joined(other=one))
        self.assertEqual(one.met(other=other), other.met(other=one))
        self.assertEqual(one.without(other=one), Pool())
        self.assertEqual(one.joined(Pool(((8, 8),))).stretches(), ((3, 9),))

    def test_bounds(self):
        whole = Pool(((0, TOP),))
        ends = Pool(((0, 0), (TOP, TOP)))
        self.assertEqual(whole.without(ends).stretches(), ((1, TOP - 1),))
        self.assertEqual(ends.without(whole), Pool())
        self.assertEqual(whole.met(ends), ends)
        self.assertEqual(whole.without(Pool()), whole)
        self.assertEqual(whole.without(Pool(((0, TOP - 1),))).stretches(), ((TOP, TOP),))
        self.assertEqual(whole.without(ends).joined(ends), whole)

    def test_more_than_twenty_stretches(self):
        odd = many_singles(45, first=1)
        threes = Pool(((0, 90),)).without(many_singles(31, step=3))
        odds = {1 + 2 * place for place in range(45)}
        no_threes = {number for number in range(91) if number % 3}
        self.assertEqual(odd.stretches(), fewest_of(odds))
        self.assertEqual(threes.stretches(), fewest_of(no_threes))
        self.check_all(odds, odd, no_threes, threes)
        self.check_all(no_threes, threes, odds, odd)
        self.check_all(odds, odd, odds, odd)
        met = odd.met(threes)
        self.assertGreater(len(met.stretches()), 20)
        self.check_all(odds & no_threes, met, no_threes - odds, threes.without(odd))
        self.assertEqual(odd.first_from(50), 51)
        self.assertEqual(odd.place_of(odd.number_at(44)), 44)
        self.assertIs(odd.has(50), False)


class Sameness(unittest.TestCase):

    def test_by_their_numbers(self):
        assert_same(self, Pool(((1, 2), (3, 4))), Pool(((1, 4),)), True)
        assert_same(self, Pool(((9, 9), (3, 7))), Pool(((3, 7), (9, 9))), True)
        assert_same(self, Pool(), Pool(((1, 4),)), False)
        assert_same(self, Pool(((1, 4),)), Pool(((1, 5),)), False)
        assert_same(self, Pool(((1, 4),)), Pool(((0, 4),)), False)
        assert_same(self, Pool(((1, 4),)), Pool(((1, 4), (6, 6))), False)
        assert_same(self, Pool(((1, 4),)), Pool(((2, 5),)), False)
        assert_same(self, Pool(), Pool(((1, 4),)).met(Pool(((5, 6),))), True)
        assert_same(self, many_singles(25), many_singles(25), True)
        assert_same(self, many_singles(25), many_singles(26), False)

    def test_unlike_what_is_no_pool(self):
        for pool in (Pool(), Pool(((1, 2),)), Pool(((3, 7), (9, 9)))):
            others = [str(pool), repr(pool), pool.stretches(), len(pool), list(pool.stretches()), Letter("find", "c")]
            for thing in THINGS + others:
                assert_same(self, pool, thing, False)


class Texts(unittest.TestCase):

    CASES = (
        ((), "none", "Pool(())"),
        (((0, 0),), "0", "Pool(((0, 0),))"),
        (((3, 7), (9, 9)), "3-7,9", "Pool(((3, 7), (9, 9)))"),
        (((9, 9), (3, 5), (6, 7)), "3-7,9", "Pool(((3, 7), (9, 9)))"),
        (((3, 4),), "3-4", "Pool(((3, 4),))"),
        (((0, TOP),), "0-999999", "Pool(((0, 999999),))"),
        (((TOP, TOP), (0, 0)), "0,999999", "Pool(((0, 0), (999999, 999999)))"),
        (((10, 20), (100, 100), (40, 50)), "10-20,40-50,100", "Pool(((10, 20), (40, 50), (100, 100)))"),
    )

    def test_str_and_repr(self):
        for stretches, text, shown in self.CASES:
            self.assertEqual(str(Pool(stretches)), text)
            self.assertEqual(repr(Pool(stretches)), shown)

    def test_read(self):
        for stretches, text, shown in self.CASES:
            self.assertEqual(pool_read(text), Pool(stretches))
            self.assertIs(type(pool_read(text=text)), Pool)
            self.assertEqual(pool_read(text).stretches(), Pool(stretches).stretches())

    def test_any_pool_is_read_back(self):
        for numbers, pool in some_pools(9, 200):
            self.assertEqual(pool_read(str(pool)), pool)
            self.assertEqual(str(pool_read(str(pool))), str(pool))
            self.assertEqual(repr(pool), f"Pool({fewest_of(numbers)!r})")

    def test_more_than_twenty_stretches(self):
        pool = many_singles(120, step=3).joined(Pool(((4, 4), (7, 7), (500, 777))))
        text = ",".join(str(low) if low == high else f"{low}-{high}" for low, high in pool.stretches())
        self.assertGreater(len(pool.stretches()), 100)
        self.assertEqual(str(pool), text)
        self.assertEqual(repr(pool), f"Pool({pool.stretches()!r})")
        self.assertEqual(pool_read(text), pool)

    def test_a_long_text(self):
        text = ",".join(str(number) for number in range(0, 6000, 2))
        pool = pool_read(text)
        self.assertEqual(len(pool), 3000)
        self.assertEqual(str(pool), text)


class Asking(unittest.TestCase):

    def answers(self, pool):
        return (
            pool.stretches(), len(pool), pool.has(4), pool.number_at(2), pool.place_of(9), pool.first_from(8, but=(9,)),
            str(pool), repr(pool), pool.dealt(), pool.joined(Pool()), pool.met(pool), pool.without(Pool(((3, 3),))),
        )

    def test_to_ask_changes_nothing(self):
        pool = Pool(((9, 9), (3, 7)))
        ahead = self.answers(pool)
        refused(self, NoPlace, pool.number_at, 6)
        refused(self, NoNumber, pool.place_of, 8)
        self.assertEqual(self.answers(pool), ahead)

    def test_results_are_apart_from_the_pools_asked(self):
        one, other = Pool(((1, 2),)), Pool(((2, 3),))
        joined = one.joined(other)
        joined.joined(Pool(((9, 9),)))
        self.assertEqual((str(one), str(other), str(joined)), ("1-2", "2-3", "1-3"))


if __name__ == "__main__":
    unittest.main()
