"""Point 21: what a world is made of, and how it is at first."""

import unittest

from leasepair.errors import NoWorld
from leasepair.letters import Letter
from leasepair.pools import Pool
from leasepair.settings import Settings
from leasepair.worlds import World

from tests.helpers import many_singles, refused
from tests.worldly import ASKERS, LINKS, NAMES, RELAYS, lend, told_of, world

L = ("l", Pool(((1, 6),)))
K = ("k", Pool(((7, 9),)))
M = ("m", Pool(((20, 20),)))
C = (("c", "l"),)


def on(link, names):
    return tuple((name, link) for name in names)


class Made(unittest.TestCase):

    def make(self, links=(L,), askers=C, relays=()):
        return World(Settings(), links=links, askers=askers, relays=relays)

    def assert_made(self, **parts):
        with self.subTest(parts=parts):
            self.assertIs(type(self.make(**parts)), World)

    def assert_refused(self, **parts):
        with self.subTest(parts=parts):
            refused(self, NoWorld, self.make, **parts)

    def test_links(self):
        for links in ((L,), (L, K), (L, K, M)):
            self.assert_made(links=links)
        self.assert_refused(links=())
        self.assert_refused(links=(L, K, M, ("n", Pool())))
        self.assert_refused(links=(L, K, ("l", Pool(((30, 30),)))))
        self.assert_refused(links=(L, L))
        self.assert_refused(links=(("l", Pool()), ("l", Pool())))

    def test_names_of_links(self):
        for name in ("l", "c", "one", "two", "r", "abcdefgh"):
            self.assert_made(links=((name, Pool(((1, 6),))),), askers=(("c", name),), relays=(("r", name),))
        for name in ("", "L", "abcdefghi", "a b", "a1", None, 1, True, (), []):
            self.assert_refused(links=((name, Pool(((1, 6),))),), askers=(("c", name),))

    def test_pools(self):
        self.assert_made(links=(("l", Pool()),))
        self.assert_made(links=(("l", Pool()), ("k", Pool()), ("m", Pool())))
        self.assert_made(links=(("l", Pool(((1, 60),))),))
        self.assert_made(links=(("l", Pool(((0, 0), (999999, 999999)))),))
        self.assert_made(links=(("l", many_singles(60)),))
        self.assert_made(links=(("l", Pool(((1, 20),))), ("k", Pool(((21, 40),))), ("m", Pool(((41, 60),)))))

    def test_too_many_numbers(self):
        self.assert_refused(links=(("l", Pool(((1, 61),))),))
        self.assert_refused(links=(("l", many_singles(61)),))
        self.assert_refused(links=(("l", Pool(((0, 999999),))),))
        self.assert_refused(links=(("l", Pool(((1, 20),))), ("k", Pool(((21, 40),))), ("m", Pool(((41, 61),)))))

    def test_a_number_in_two_pools(self):
        self.assert_refused(links=(L, ("k", Pool(((6, 9),)))))
        self.assert_refused(links=(L, ("k", Pool(((1, 6),)))))
        self.assert_refused(links=(L, K, ("m", Pool(((3, 3),)))))
        self.assert_refused(links=(L, K, ("m", Pool(((9, 9),)))))
        self.assert_refused(links=(("l", Pool(((0, 999999),))), ("k", Pool(((0, 999999),)))))

    def test_askers(self):
        for many in range(1, 7):
            self.assert_made(askers=on("l", "cdefgh"[:many]))
        self.assert_refused(askers=())
        self.assert_refused(askers=on("l", "cdefghi"))
        self.assert_refused(askers=(("c", "l"), ("c", "l")))
        self.assert_refused(links=(L, K), askers=(("c", "l"), ("d", "l"), ("c", "k")))

    def test_names_of_askers(self):
        for name in ("a", "z", "l", "abcdefgh", "three", "ones"):
            self.assert_made(askers=((name, "l"),))
        for name in ("one", "two", "", "C", "abcdefghi", "c d", "c1", None, 1, True, (), []):
            self.assert_refused(askers=((name, "l"),))
            self.assert_refused(askers=(("c", "l"), (name, "l")))

    def test_links_of_askers(self):
        self.assert_made(links=(L, K), askers=(("c", "k"),))
        for link in ("k", "", "c", "one", None, 0, (), []):
            self.assert_refused(askers=(("c", link),))
            self.assert_refused(askers=(("c", "l"), ("d", link)))

    def test_relays(self):
        self.assert_made(relays=())
        for many in range(5):
            self.assert_made(relays=on("l", "rstu"[:many]))
        self.assert_refused(relays=on("l", "rstuv"))
        self.assert_made(links=(L, K), relays=on("l", "rstu") + on("k", "vw"))
        self.assert_made(links=(L, K, M), relays=on("l", "rs") + on("k", "tu") + on("m", "vw"))
        self.assert_refused(links=(L, K), relays=on("l", "rstu") + on("k", "vwx"))
        self.assert_refused(links=(L, K, M), relays=on("l", "rst") + on("k", "uv") + on("m", "wx"))
        self.assert_refused(links=(L, K), relays=on("k", "r") + on("l", "stuvw"))
        self.assert_refused(relays=on("l", "rr"))
        self.assert_refused(links=(L, K), relays=(("r", "l"), ("r", "k")))

    def test_names_of_relays(self):
        for name in ("a", "z", "l", "abcdefgh", "onetwo"):
            self.assert_made(relays=((name, "l"),))
        for name in ("one", "two", "c", "", "R", "abcdefghi", "r s", None, 1, False, (), []):
            self.assert_refused(relays=((name, "l"),))
            self.assert_refused(relays=(("r", "l"), (name, "l")))
        self.assert_refused(links=(L, K), askers=(("c", "l"), ("d", "k")), relays=(("d", "l"),))

    def test_links_of_relays(self):
        self.assert_made(links=(L, K), relays=(("r", "k"),))
        for link in ("k", "", "r", "two", None, 0, (), []):
            self.assert_refused(relays=(("r", link),))

    def test_other_kinds(self):
        for thing in (None, 1, "l", [], {}, [L], ("l",), (("l",),), (("l", "k", "m"),), (["l", Pool()],), (("l", None),)):
            self.assert_refused(links=thing)
        for thing in (None, 1, "c", [], [("c", "l")], ("c",), (("c",),), (("c", "l", "l"),), (["c", "l"],), (None,)):
            self.assert_refused(askers=thing)
            if thing != []:
                self.assert_refused(relays=thing)

    def test_other_settings(self):
        for thing in (None, 1, (60, 20, 2, 8, 28, 30), Pool()):
            refused(self, NoWorld, World, thing, links=(L,), askers=C)

    def test_by_names(self):
        made = World(settings=Settings(), links=(L,), askers=C)
        self.assertEqual(made.titled(1), ["two"])
        made = World(relays=(), askers=C, links=(L,), settings=Settings())
        self.assertEqual(made.titled(2), ["one"])
        for args in ((Settings(), (L,)), (Settings(), (L,), C)):
            with self.assertRaises(TypeError):
                World(*args)


class AtFirst(unittest.TestCase):

    def test_what_is_told(self):
        made = world()
        self.assertEqual(made.now(), 0)
        self.assertEqual(made.letters(), [])
        self.assertEqual(made.both(), [])
        self.assertIs(made.ever_both(), False)
        self.assertEqual(made.tried(), 0)
        self.assertEqual(made.holds(), [])
        self.assertEqual([made.reading(name) for name in NAMES], [0] * 6)
        self.assertEqual([made.state(name) for name in NAMES], ["idle"] * 4 + ["paired"] * 2)
        self.assertTrue(made)

    def test_titles(self):
        made = world()
        for number in (2, 4, 6, 11):
            self.assertEqual(made.titled(number), ["one"])
        for number in (1, 3, 5, 10, 12):
            self.assertEqual(made.titled(number), ["two"])
        for number in (-1, 0, 7, 9, 13, 10 ** 59, -10 ** 59):
            self.assertEqual(made.titled(number), [])
            self.assertEqual(made.holders(number), [])

    def test_a_world_of_the_most_of_all(self):
        made = World(
            Settings(), links=(("l", Pool(((1, 58),))), ("k", Pool(((70, 71),))), ("m", Pool())),
            askers=on("l", "cdefg") + on("k", "h"), relays=on("l", "rstu") + on("k", "vw"),
        )
        lend(made, "g", "one")
        lend(made, "h", "one")
        self.assertEqual([row[:2] for row in made.holds()], [(2, "g"), (71, "h")])

    def test_what_was_handed_in_stays(self):
        settings = Settings()
        links, askers, relays = tuple(LINKS), tuple(ASKERS), tuple(RELAYS)
        made = World(settings, links=links, askers=askers, relays=relays)
        lend(made, "c", "one")
        made.do(("lag", "one", 2))
        self.assertEqual(settings, Settings())
        self.assertEqual((links, askers, relays), (LINKS, ASKERS, RELAYS))
        self.assertEqual([str(pool) for name, pool in links], ["1-6", "10-12", "none"])

    def test_settings_changed_behind_the_call(self):
        settings = Settings()
        made = World(settings, links=LINKS, askers=ASKERS, relays=RELAYS)
        settings.lease = settings.lead = settings.slack = settings.grace = settings.wait = settings.rest = 1
        lend(made, "c", "one")
        made.do(("lag", "one", 2))
        other = world()
        lend(other, "c", "one")
        other.do(("lag", "one", 2))
        self.assertEqual(told_of(made), told_of(other))
        self.assertEqual(made.holds(), [(2, "c", 22, 26, 26)])

    def test_a_world_is_like_itself_alone(self):
        made = world()
        self.assertTrue(made == made)
        for thing in (None, 1, "world", (), Settings(), Letter("find", "c")):
            self.assertIs(made == thing, False)


if __name__ == "__main__":
    unittest.main()
