"""Point 10: settings, their bounds, row, spares and text."""

import itertools
import unittest

from leasepair import settings
from leasepair.errors import NoSetting
from leasepair.settings import Clock, Settings

from tests.helpers import THINGS, WIDE, assert_same, refused

NAMES = ("lease", "lead", "slack", "grace", "wait", "rest")
DEFAULTS = {"lease": 60, "lead": 20, "slack": 2, "grace": 8, "wait": 28, "rest": 30}
BOUNDS = {
    "lease": (1, 999999), "lead": (1, 999999), "slack": (0, 9999),
    "grace": (0, 999999), "wait": (0, 999999), "rest": (0, 999999),
}
# With the greatest lease and the least lead, each other one may be what it likes.
WIDEST = {"lease": 999999, "lead": 1, "slack": 0, "grace": 0, "wait": 0, "rest": 0}
NO_WHOLE = [thing for thing in THINGS if isinstance(thing, bool) or not isinstance(thing, int)]


def wrong_of(name):
    low, high = BOUNDS[name]
    return [low - 1, high + 1, low - 1000, WIDE, -WIDE] + NO_WHOLE


class Fields(unittest.TestCase):

    def test_constants(self):
        told = (settings.LEASE, settings.LEAD, settings.SLACK, settings.REST)
        self.assertEqual(told, (60, 20, 2, 30))

    def test_defaults(self):
        made = Settings()
        self.assertEqual([getattr(made, name) for name in NAMES], list(DEFAULTS.values()))
        self.assertEqual(made.row(), (60, 20, 2, 8, 28, 30))

    def test_each_left_out(self):
        told = {"lease": 50, "lead": 40, "slack": 3, "grace": 13, "wait": 53, "rest": 7}
        for name in NAMES:
            named = {key: value for key, value in told.items() if key != name}
            made = Settings(**named)
            for key in NAMES:
                self.assertEqual(getattr(made, key), DEFAULTS[name] if key == name else told[key])

    def test_the_default_grace_and_wait_do_not_follow_the_others(self):
        self.assertEqual(Settings(slack=5, lead=3).row(), (60, 3, 5, 8, 28, 30))

    def test_each_bound(self):
        for name in NAMES:
            low, high = BOUNDS[name]
            for value in (low, low + 1, high - 1, high):
                named = {**WIDEST, name: value}
                made = Settings(**named)
                self.assertEqual(made.row(), tuple(named[key] for key in NAMES))
                self.assertEqual([getattr(made, key) for key in NAMES], [named[key] for key in NAMES])

    def test_in_any_order(self):
        whole = {"lease": 9, "lead": 8, "slack": 7, "grace": 6, "wait": 5, "rest": 4}
        for order in itertools.permutations(NAMES):
            self.assertEqual(Settings(**{name: whole[name] for name in order}).row(), (9, 8, 7, 6, 5, 4))

    def test_by_their_names_alone(self):
        with self.assertRaises(TypeError):
            Settings(60)

    def test_the_row_is_a_tuple(self):
        self.assertIs(type(Settings().row()), tuple)
        self.assertIs(type(Settings().spares()), tuple)


class Refused(unittest.TestCase):

    def test_each_wrong_one(self):
        for name in NAMES:
            for wrong in wrong_of(name):
                with self.subTest(name=name, wrong=wrong):
                    self.assertEqual(refused(self, NoSetting, Settings, **{**WIDEST, name: wrong}).name, name)
                    self.assertEqual(refused(self, NoSetting, Settings, **{name: wrong}).name, name)

    def test_a_lead_above_the_lease(self):
        for lease in (1, 2, 60, 999998):
            self.assertEqual(Settings(lease=lease, lead=lease).lead, lease)
            self.assertEqual(refused(self, NoSetting, Settings, lease=lease, lead=lease + 1).name, "lead")
        self.assertEqual(refused(self, NoSetting, Settings, lease=19).name, "lead")
        self.assertEqual(refused(self, NoSetting, Settings, lead=61).name, "lead")

    def test_of_several_wrong_ones_the_first(self):
        for many in range(2, 7):
            for names in itertools.combinations(NAMES, many):
                for wrong in (-1, None, "7", [], True, 10 ** 6):
                    named = {**WIDEST, **{name: wrong for name in names[::-1]}}
                    self.assertEqual(refused(self, NoSetting, Settings, **named).name, names[0])

    def test_wrong_ones_of_many_kinds(self):
        self.assertEqual(refused(self, NoSetting, Settings, lease="60", lead=None, rest=-1).name, "lease")
        self.assertEqual(refused(self, NoSetting, Settings, lead=[], slack=()).name, "lead")
        self.assertEqual(refused(self, NoSetting, Settings, slack=10000, grace=True).name, "slack")


class Safety(unittest.TestCase):

    def test_spares(self):
        self.assertEqual(Settings().spares(), (0, 0))
        self.assertEqual(Settings(lease=50, lead=7, slack=3, grace=20, wait=40, rest=0).spares(), (8, 21))
        self.assertEqual(Settings(lease=50, lead=7, slack=9999, grace=0, wait=0).spares(), (-39996, -40003))
        self.assertEqual(Settings(slack=0, grace=0, wait=0, lead=1).spares(), (0, -1))

    def test_safe_right_at_nought_and_not_below(self):
        for slack, lead in itertools.product((0, 1, 2, 9999), (1, 20, 60)):
            for grace, wait in itertools.product((-1, 0, 1, 5), repeat=2):
                if 4 * slack + grace < 0:
                    continue
                made = Settings(slack=slack, lead=lead, grace=4 * slack + grace, wait=lead + 4 * slack + wait)
                self.assertEqual(made.spares(), (grace, wait))
                self.assertIs(made.is_safe(), grace >= 0 and wait >= 0)

    def test_lease_and_rest_are_all_the_same_to_it(self):
        for lease, rest in itertools.product((20, 999999), (0, 999999)):
            self.assertIs(Settings(lease=lease, rest=rest).is_safe(), True)
            self.assertIs(Settings(lease=lease, rest=rest, grace=7).is_safe(), False)
            self.assertIs(Settings(lease=lease, rest=rest, wait=27).is_safe(), False)


class Sameness(unittest.TestCase):

    def test_by_their_rows(self):
        assert_same(self, Settings(), Settings(), True)
        assert_same(self, Settings(), Settings(**DEFAULTS), True)
        for name in NAMES:
            assert_same(self, Settings(), Settings(**{name: DEFAULTS[name] + 1}), False)
            assert_same(self, Settings(**{name: DEFAULTS[name] + 1}), Settings(**{name: DEFAULTS[name] + 1}), True)
        assert_same(self, Settings(grace=9, wait=28), Settings(grace=8, wait=29), False)

    def test_unlike_other_things(self):
        made = Settings()
        for thing in THINGS + [made.row(), list(made.row()), str(made), Clock()]:
            assert_same(self, made, thing, False)

    def test_truth(self):
        self.assertIs(bool(Settings()), True)
        self.assertIs(bool(Settings(**WIDEST)), True)


class Text(unittest.TestCase):

    def test_the_text(self):
        self.assertEqual(str(Settings()), "lease=60 lead=20 slack=2 grace=8 wait=28 rest=30")
        self.assertEqual(str(Settings(**WIDEST)), "lease=999999 lead=1 slack=0 grace=0 wait=0 rest=0")
        made = Settings(lease=6, lead=5, slack=4, grace=3, wait=2, rest=1)
        self.assertEqual(str(made), "lease=6 lead=5 slack=4 grace=3 wait=2 rest=1")

    def test_to_ask_changes_nothing(self):
        made = Settings(lease=6, lead=5, slack=4, grace=3, wait=2, rest=1)
        for step in range(2):
            self.assertEqual(made.row(), (6, 5, 4, 3, 2, 1))
            self.assertEqual(made.spares(), (-13, -19))
            self.assertIs(made.is_safe(), False)
            self.assertEqual(str(made), "lease=6 lead=5 slack=4 grace=3 wait=2 rest=1")


if __name__ == "__main__":
    unittest.main()
