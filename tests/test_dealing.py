"""Point 5: pools dealt by weights."""

import random
import unittest
from fractions import Fraction
from math import floor

from leasepair.errors import NoShare
from leasepair.pools import Pool

from tests.helpers import WIDE, many_singles, refused, some_stretches

WEIGHTS = (
    (1, 1), (1, 2), (2, 1), (0, 1), (1, 0), (3, 4), (7, 5), (1, 9), (9, 1), (1000, 1), (1, 1000), (999, 1000),
    (1000, 1000), (0, 1000), (1000, 0), (500, 3), (17, 100),
)


def all_numbers(pool):
    return [pool.number_at(place) for place in range(len(pool))]


def dealt_numbers(numbers, one, other):
    """Place by place, by the words of point 5."""
    share = Fraction(one, one + other)
    first = [number for k, number in enumerate(numbers) if floor((k + 1) * share) > floor(k * share)]
    return first, [number for number in numbers if number not in first]


class Dealing(unittest.TestCase):

    def check(self, pool, one, other):
        ahead = pool.stretches()
        parts = pool.dealt(one=one, other=other)
        self.assertIs(type(parts), tuple)
        self.assertEqual([type(part) for part in parts], [Pool, Pool])
        told = tuple(all_numbers(part) for part in parts)
        self.assertEqual(told, dealt_numbers(all_numbers(pool), one, other), (pool, one, other))
        self.assertEqual(parts[0].joined(parts[1]), pool)
        self.assertEqual(parts[0].met(parts[1]), Pool())
        self.assertEqual(pool.without(parts[0]), parts[1])
        self.assertEqual(pool.without(parts[1]), parts[0])
        self.assertEqual(pool.stretches(), ahead)

    def test_told_parts(self):
        pool = Pool(((1, 6),))
        cases = (
            ((1, 1), "2,4,6", "1,3,5"), ((1, 2), "3,6", "1-2,4-5"), ((2, 1), "2-3,5-6", "1,4"),
            ((0, 1), "none", "1-6"), ((1, 0), "1-6", "none"), ((1000, 1), "2-6", "1"), ((1, 1000), "none", "1-6"),
        )
        for (one, other), first, second in cases:
            with self.subTest(one=one, other=other):
                parts = pool.dealt(one=one, other=other)
                self.assertEqual((str(parts[0]), str(parts[1])), (first, second))

    def test_by_places_not_by_numbers(self):
        first, second = Pool(((3, 3), (5, 5), (7, 7), (9, 9))).dealt()
        self.assertEqual((str(first), str(second)), ("5,9", "3,7"))

    def test_one_number_goes_to_the_second_part(self):
        self.assertEqual(Pool(((1, 1),)).dealt(), (Pool(), Pool(((1, 1),))))

    def test_any_pool(self):
        source = random.Random(11)
        for step in range(40):
            pool = Pool(some_stretches(source))
            for one, other in WEIGHTS:
                self.check(pool, one, other)

    def test_two_hundred_numbers(self):
        singles = many_singles(200)
        for one, other in WEIGHTS:
            self.check(Pool(((0, 199),)), one, other)
            self.check(Pool(((999800, 999999),)), one, other)
            self.check(singles, one, other)
        parts = Pool(((0, 199),)).dealt()
        self.assertEqual([len(part.stretches()) for part in parts], [100, 100])

    def test_the_empty_pool(self):
        for one, other in WEIGHTS:
            self.assertEqual(Pool().dealt(one=one, other=other), (Pool(), Pool()))

    def test_the_first_part_has_the_whole_part_of_its_due(self):
        pool = Pool(((10, 150),))
        for one, other in WEIGHTS:
            first = pool.dealt(one=one, other=other)[0]
            for many in range(len(pool) + 1):
                had = [number for number in range(10, 10 + many) if first.has(number)]
                self.assertEqual(len(had), many * one // (one + other))

    def test_defaults(self):
        pool = Pool(((1, 9),))
        self.assertEqual(pool.dealt(), pool.dealt(one=1, other=1))
        self.assertEqual(pool.dealt(one=3), pool.dealt(one=3, other=1))
        self.assertEqual(pool.dealt(other=3), pool.dealt(other=3, one=1))
        self.assertNotEqual(pool.dealt(one=3), pool.dealt(other=3))

    def test_weights_stand_behind_a_star(self):
        with self.assertRaises(TypeError):
            Pool(((1, 9),)).dealt(1, 1)

    def test_weights_so_many_times_as_great(self):
        pool = Pool(((1, 40), (60, 75)))
        for one, other in ((1, 1), (1, 2), (3, 7), (0, 1), (1, 0)):
            for times in (2, 3, 10, 100):
                self.assertEqual(pool.dealt(one=one, other=other), pool.dealt(one=one * times, other=other * times))


class RefusedWeights(unittest.TestCase):

    WRONG = (
        (0, 0), (-1, 1), (1, -1), (-1, -1), (-1, 0), (0, -1), (-1, 2), (2, -1), (1001, 1), (1, 1001), (1001, 1001),
        (1001, 0), (0, 1001), (1000, 1001), (1001, 1000), (WIDE, 1), (1, WIDE), (-WIDE, WIDE), (WIDE, -WIDE), (-1, 1000),
    )

    def test_no_share(self):
        for pool in (Pool(), Pool(((1, 1),)), Pool(((1, 9),)), many_singles(30)):
            ahead = pool.dealt(one=2, other=3)
            for one, other in self.WRONG:
                with self.subTest(one=one, other=other):
                    refused(self, NoShare, pool.dealt, one=one, other=other)
            self.assertEqual(pool.dealt(one=2, other=3), ahead)

    def test_one_weight_told(self):
        pool = Pool(((1, 9),))
        for wrong in (-1, 1001, WIDE, -WIDE):
            refused(self, NoShare, pool.dealt, one=wrong)
            refused(self, NoShare, pool.dealt, other=wrong)
        self.assertEqual(pool.dealt(one=0), (Pool(), pool))
        self.assertEqual(pool.dealt(other=0), (pool, Pool()))


if __name__ == "__main__":
    unittest.main()
