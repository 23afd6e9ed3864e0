"""Points 3 and 25: the small world, and the paper of settings, safe or broken."""

import itertools
import random
import unittest

from leasepair.errors import NoName
from leasepair.papers import looked, paper, small_world
from leasepair.settings import Settings

from tests.helpers import refused
from tests.worldly import lend, told_of

MOST = 999999


def at_the_border(lease, lead, slack, grace=0, wait=0):
    """Settings whose spares are these, or as near to them as may be."""
    return Settings(lease=lease, lead=lead, slack=slack, grace=4 * slack + grace, wait=lead + 4 * slack + wait)


class SmallWorld(unittest.TestCase):

    def test_at_first(self):
        made = small_world(Settings())
        self.assertEqual((made.now(), made.letters(), made.tried()), (0, [], 0))
        self.assertEqual([made.titled(number) for number in range(4)], [[], ["two"], [], []])
        self.assertEqual([made.state(name) for name in ("c", "d", "one", "two")], ["idle", "idle", "paired", "paired"])
        for name in ("a", "e", "l", "r"):
            refused(self, NoName, made.state, name)
        lend(made, "d", "two")
        self.assertEqual(made.holds(), [(1, "d", 22, 26, 26)])

    def test_no_relays(self):
        made = small_world(settings=Settings())
        made.do(("find", "c"))
        made.do(("hand", 1))
        offer = made.letters()[-1]
        self.assertEqual((offer.number, offer.link, offer.via), (1, "l", ()))
        for name in ("r", "l", "c"):
            refused(self, NoName, made.do, ("shut", name))

    def test_its_settings(self):
        made = small_world(Settings(lease=50, lead=7, slack=3, grace=12, wait=19))
        made.do(("lag", "two", 3))
        lend(made, "c", "two")
        self.assertEqual(made.holds(), [(1, "c", 10, 16, 19)])

    def test_each_is_a_new_one(self):
        settings = Settings()
        one, other = small_world(settings), small_world(settings)
        before = told_of(other, ("c", "d", "one", "two"))
        lend(one, "c", "two")
        one.do(("stop", "two"))
        self.assertEqual(told_of(other, ("c", "d", "one", "two")), before)


class Papers(unittest.TestCase):

    def assert_safe(self, settings, spares):
        self.assertEqual(paper(settings), ("safe", spares))
        self.assertIs(looked(("safe", settings.row()), spares), True)
        self.assertIs(looked(("broken", settings.row()), ()), False)

    def assert_broken(self, settings):
        with self.subTest(settings=settings.row()):
            word, events = paper(settings)
            self.assertEqual((word, type(events)), ("broken", tuple))
            self.assertLessEqual(len(events), 80)
            made = small_world(settings)
            for event in events:
                self.assertIs(type(event), tuple)
                self.assertIs(made.ever_both(), False)
                made.do(event)
            self.assertEqual((made.both(), made.holders(1), made.ever_both()), ([1], ["c", "d"], True))
            self.assertIs(looked(("broken", settings.row()), events), True)
            self.assertIs(looked(("safe", settings.row()), settings.spares()), False)

    def test_safe(self):
        self.assert_safe(Settings(), (0, 0))
        self.assert_safe(Settings(grace=9), (1, 0))
        self.assert_safe(Settings(wait=30), (0, 2))
        self.assert_safe(Settings(lease=1, lead=1, slack=0, grace=0, wait=1, rest=0), (0, 0))
        self.assert_safe(Settings(slack=0, grace=MOST, wait=MOST), (MOST, MOST - 20))
        self.assert_safe(Settings(lease=MOST, lead=MOST, slack=0, grace=0, wait=MOST), (0, 0))
        self.assert_safe(at_the_border(MOST, MOST - 4 * 9999, 9999), (0, 0))
        self.assert_safe(Settings(lease=1, lead=1, slack=9999, grace=MOST, wait=MOST), (MOST - 39996, MOST - 39997))

    def test_by_name(self):
        self.assertEqual(paper(settings=Settings()), ("safe", (0, 0)))
        self.assertEqual(paper(settings=Settings(grace=7))[0], "broken")

    def test_one_too_little(self):
        for lease, lead, slack in (
            (1, 1, 1), (60, 20, 2), (60, 1, 2), (20, 20, 5), (3000, 7, 100), (2, 1, 9999), (MOST, 1, 9999),
            (MOST, MOST - 4 * 9999, 9999),
        ):
            self.assert_broken(at_the_border(lease, lead, slack, grace=-1))
            self.assert_broken(at_the_border(lease, lead, slack, wait=-1))
            self.assert_broken(at_the_border(lease, lead, slack, grace=-1, wait=-1))
            self.assert_safe(at_the_border(lease, lead, slack), (0, 0))
        for lease, lead in ((1, 1), (60, 20), (MOST, 1), (MOST, MOST)):
            self.assert_broken(at_the_border(lease, lead, 0, wait=-1))
            self.assert_safe(at_the_border(lease, lead, 0), (0, 0))

    def test_much_too_little(self):
        for lead, slack in itertools.product((1, 2, 20, MOST), (0, 1, 9999)):
            self.assert_broken(Settings(lease=MOST, lead=lead, slack=slack, grace=0, wait=0))
            if slack > 0:
                self.assert_broken(Settings(lease=lead, lead=lead, slack=slack, grace=0, wait=MOST))
                self.assert_broken(Settings(lease=lead, lead=lead, slack=slack, grace=1, wait=MOST))
            self.assert_broken(Settings(lease=lead, lead=lead, slack=slack, grace=MOST, wait=0))

    def test_the_greatest(self):
        self.assert_broken(Settings(lease=MOST, lead=MOST, slack=9999, grace=39995, wait=MOST, rest=MOST))
        self.assert_broken(Settings(lease=MOST, lead=MOST, slack=9999, grace=39996, wait=MOST, rest=MOST))
        self.assert_broken(Settings(lease=MOST, lead=MOST, slack=9999, grace=MOST, wait=MOST, rest=MOST))
        self.assert_broken(Settings(lease=MOST, lead=MOST, slack=1, grace=MOST, wait=MOST))

    def test_all_small_ones(self):
        for lead, slack, grace, wait in itertools.product((1, 2, 3), (0, 1, 2), range(10), range(13)):
            settings = Settings(lease=3, lead=lead, slack=slack, grace=grace, wait=wait, rest=0)
            if grace >= 4 * slack and wait >= lead + 4 * slack:
                self.assert_safe(settings, (grace - 4 * slack, wait - lead - 4 * slack))
            else:
                self.assert_broken(settings)

    def test_drawn_ones(self):
        source = random.Random(25)
        for step in range(200):
            lease, slack = source.choice((9, 999, MOST)), source.choice((9, 99, 9999))
            settings = Settings(
                lease=source.randint(1, lease), lead=1, slack=source.randint(0, slack),
                grace=source.randint(0, 5 * slack), wait=source.randint(0, 5 * slack), rest=source.randint(0, MOST),
            )
            if settings.is_safe():
                self.assert_safe(settings, settings.spares())
            else:
                self.assert_broken(settings)

    def test_the_same_question_has_the_same_answer(self):
        for settings in (Settings(), Settings(grace=7), Settings(wait=27)):
            self.assertEqual(paper(settings), paper(Settings(**vars(settings))))
            before = settings.row()
            paper(settings)
            self.assertEqual(settings.row(), before)


if __name__ == "__main__":
    unittest.main()
