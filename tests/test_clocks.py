"""Point 9: clocks, their lag, floor and slack."""

import random
import unittest

from leasepair.errors import NoClock
from leasepair.settings import SLACK, Clock, Settings

from tests.helpers import THINGS, assert_same, refused

FAR = 99999999999


class Reckoned:
    """A clock reckoned from all lags that were ever put: its reading is the greatest of what each told."""

    def __init__(self):
        self.lags = [(None, 0)]

    def reading(self, now):
        found = None
        for at, (since, lag) in enumerate(self.lags):
            until = self.lags[at + 1][0] if at + 1 < len(self.lags) else now
            found = until + lag if found is None else max(found, until + lag)
        return found


class Clocks(unittest.TestCase):

    def test_at_first(self):
        for clock in (Clock(), Clock(slack=0), Clock(slack=9999)):
            self.assertEqual(clock.lag(), 0)
            for now in (-FAR, -1, 0, 1, 7, FAR):
                self.assertEqual(clock.reading(now), now)

    def test_a_lag_at_either_end_of_the_slack(self):
        for slack in (0, 1, 2, 9999):
            for lag in (-slack, slack, 0, -slack // 2, slack // 2):
                clock = Clock(slack=slack)
                self.assertIsNone(clock.put(10, lag=lag))
                self.assertEqual(clock.lag(), lag)
                self.assertEqual(clock.reading(10), max(10, 10 + lag))
                self.assertEqual(clock.reading(10 + 20000), 20010 + lag)

    def test_a_lag_beyond_the_slack(self):
        for slack in (0, 1, 2, 9999):
            clock = Clock(slack=slack)
            clock.put(10, lag=slack)
            for lag in (slack + 1, -slack - 1, slack * 3 + 5, -10 ** 11):
                error = refused(self, NoClock, clock.put, 11, lag=lag)
                self.assertEqual((error.asked, error.slack), (lag, slack))
                self.assertEqual(clock.lag(), slack)
                self.assertEqual(clock.reading(11), 11 + slack)

    def test_what_is_refused_puts_no_floor(self):
        clock = Clock(slack=3)
        clock.put(0, lag=3)
        refused(self, NoClock, clock.put, 10, lag=4)
        clock.put(10, lag=-3)
        self.assertEqual([clock.reading(now) for now in (10, 15, 16, 17)], [13, 13, 13, 14])
        refused(self, NoClock, clock.put, 17, lag=-4)
        self.assertEqual([clock.reading(now) for now in (17, 18)], [14, 15])

    def test_the_default_slack(self):
        self.assertEqual(SLACK, 2)
        clock = Clock()
        clock.put(0, lag=2)
        clock.put(0, lag=-2)
        self.assertEqual(refused(self, NoClock, clock.put, 0, lag=3).slack, 2)
        self.assertEqual(refused(self, NoClock, clock.put, 0, lag=-3).asked, -3)

    def test_the_floor_is_the_reading_till_then(self):
        clock = Clock(slack=5)
        clock.put(100, lag=-5)
        self.assertEqual([clock.reading(now) for now in (100, 104, 105, 106)], [100, 100, 100, 101])
        clock.put(106, lag=5)
        self.assertEqual(clock.reading(106), 111)
        clock.put(106, lag=0)
        self.assertEqual([clock.reading(now) for now in (106, 110, 111, 112)], [111, 111, 111, 112])

    def test_the_floor_stays_where_the_lag_is_put_below_it(self):
        clock = Clock(slack=5)
        clock.put(0, lag=5)
        clock.put(10, lag=-5)
        clock.put(12, lag=-4)
        self.assertEqual([clock.reading(now) for now in (12, 18, 19, 20)], [15, 15, 15, 16])

    def test_the_floor_is_the_last_one(self):
        clock = Clock(slack=5)
        clock.put(0, lag=5)
        clock.put(10, lag=-5)
        clock.put(30, lag=-5)
        self.assertEqual([clock.reading(now) for now in (30, 31)], [25, 26])
        clock.put(31, lag=-5)
        self.assertEqual([clock.reading(now) for now in (31, 32)], [26, 27])

    def test_several_times_at_one_moment(self):
        clock = Clock(slack=4)
        for lag, reading in ((1, -7), (-4, -7), (3, -5), (0, -5), (-2, -5), (4, -4), (-4, -4)):
            clock.put(-8, lag=lag)
            self.assertEqual(clock.reading(-8), reading)
            self.assertEqual(clock.lag(), lag)
        self.assertEqual([clock.reading(now) for now in (-1, 0, 1)], [-4, -4, -3])

    def test_moments_below_nought(self):
        clock = Clock(slack=9999)
        clock.put(-FAR, lag=-9999)
        self.assertEqual(clock.reading(-FAR), -FAR)
        self.assertEqual(clock.reading(-5), -10004)
        clock.put(-5, lag=9999)
        self.assertEqual(clock.reading(-5), 9994)

    def test_to_ask_changes_nothing(self):
        clock = Clock(slack=3)
        clock.put(0, lag=3)
        for step in range(3):
            self.assertEqual(clock.reading(20), 23)
            self.assertEqual(clock.lag(), 3)
        clock.put(20, lag=-3)
        for now in (20, 20, 25, 25, 30, 30):
            self.assertEqual(clock.reading(now), max(23, now - 3))

    def test_it_never_falls_and_keeps_to_the_slack(self):
        source = random.Random(9)
        for slack in (0, 1, 2, 5, 9999):
            for run in range(40):
                clock, reckoned = Clock(slack=slack), Reckoned()
                now = source.randint(-50, 50)
                last = clock.reading(now)
                for step in range(40):
                    now += source.choice((0, 0, 1, 2, slack, 3 * slack))
                    if source.random() < 0.5:
                        before = clock.reading(now)
                        lag = source.choice((-slack, slack, source.randint(-slack, slack)))
                        clock.put(now, lag=lag)
                        reckoned.lags.append((now, lag))
                        self.assertEqual(clock.lag(), lag)
                        self.assertGreaterEqual(clock.reading(now), before)
                    self.assertEqual(clock.reading(now), reckoned.reading(now))
                    self.assertGreaterEqual(clock.reading(now), last)
                    self.assertLessEqual(abs(clock.reading(now) - now), slack)
                    last = clock.reading(now)

    def test_two_clocks_share_nothing(self):
        one, other = Clock(slack=5), Clock(slack=5)
        one.put(0, lag=5)
        self.assertEqual((one.lag(), other.lag()), (5, 0))
        self.assertEqual((one.reading(1), other.reading(1)), (6, 1))
        one.put(1, lag=-5)
        other.put(1, lag=-5)
        self.assertEqual((one.reading(2), other.reading(2)), (6, 1))

    def test_by_names(self):
        clock = Clock(slack=1)
        clock.put(lag=1, now=4)
        self.assertEqual(clock.reading(now=4), 5)
        for call in (lambda: Clock(1), lambda: clock.put(4, 1), lambda: clock.put(4)):
            with self.assertRaises(TypeError):
                call()

    def test_unlike_other_things(self):
        clock = Clock()
        for thing in THINGS + [Settings()]:
            assert_same(self, clock, thing, False)
        self.assertIs(bool(clock), True)


if __name__ == "__main__":
    unittest.main()
