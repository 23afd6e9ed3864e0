"""The interface: names, arguments and defaults, and where each thing is defined."""

import inspect
import unittest

from leasepair import letters, papers, pools, relays, settings, texts
from leasepair.askers import Asker
from leasepair.desk import Desk
from leasepair.keepers import Keeper
from leasepair.letters import Letter
from leasepair.pools import Pool
from leasepair.relays import Relay
from leasepair.settings import Clock, Settings
from leasepair.worlds import World

FUNCTIONS = {
    pools: {"pool_read": "(text)"},
    letters: {"letter_bytes": "(letter)", "letter_read": "(data)"},
    relays: {"passed_by": "(relays, letter)", "brought_by": "(relays, letter)"},
    papers: {"small_world": "(settings)", "paper": "(settings)", "looked": "(claim, paper)"},
    texts: {
        "event_text": "(event)", "run_text": "(events)", "letter_text": "(letter)", "event_read": "(text)",
        "run_read": "(text)",
    },
}
VALUES = {
    letters: {
        "KINDS": (
            "find", "offer", "want", "grant", "deny", "renew", "free", "spoil", "told", "seen", "give", "back", "books",
        ),
    },
    relays: {"MOST": 4},
    settings: {"LEASE": 60, "LEAD": 20, "SLACK": 2, "REST": 30},
}
MODULES = {
    Pool: "pools", Letter: "letters", Relay: "relays", Settings: "settings", Clock: "settings", Asker: "askers",
    Keeper: "keepers", World: "worlds", Desk: "desk",
}
METHODS = {
    Pool: {
        "__init__": "(self, stretches=())",
        "stretches": "(self)",
        "has": "(self, number)",
        "number_at": "(self, place)",
        "place_of": "(self, number)",
        "first_from": "(self, low=0, *, but=())",
        "joined": "(self, other)",
        "met": "(self, other)",
        "without": "(self, other)",
        "dealt": "(self, *, one=1, other=1)",
        "__eq__": "(self, other)",
        "__len__": "(self)",
        "__str__": "(self)",
        "__repr__": "(self)",
    },
    Letter: {
        "__init__": (
            "(self, kind, sender, receiver='', *, mark=0, number=None, span=0, turn=0, count=0, end=None, who='', "
            "link='', via=(), rows=())"
        ),
        "altered": "(self, *, receiver=None, link=None, via=None)",
        "__eq__": "(self, other)",
        "__repr__": "(self)",
    },
    Relay: {
        "__init__": "(self, name, *, link, most=4)",
        "passed_on": "(self, letter)",
        "brought_back": "(self, letter)",
    },
    Settings: {
        "__init__": "(self, *, lease=60, lead=20, slack=2, grace=8, wait=28, rest=30)",
        "row": "(self)",
        "spares": "(self)",
        "is_safe": "(self)",
        "__eq__": "(self, other)",
        "__str__": "(self)",
    },
    Clock: {
        "__init__": "(self, *, slack=2)",
        "lag": "(self)",
        "reading": "(self, now)",
        "put": "(self, now, *, lag)",
    },
    Asker: {
        "__init__": "(self, name)",
        "state": "(self, reading)",
        "held": "(self, reading)",
        "held_to": "(self, reading)",
        "due": "(self, reading)",
        "seek": "(self, reading)",
        "renew": "(self, reading)",
        "free": "(self, reading)",
        "spoil": "(self, reading)",
        "take": "(self, letter, reading)",
    },
    Keeper: {
        "__init__": "(self, name, *, links, settings)",
        "state": "(self)",
        "entry": "(self, number)",
        "is_free": "(self, number, reading, *, who='')",
        "take": "(self, letter, reading)",
        "give": "(self, number, reading)",
        "alone": "(self, reading)",
        "start": "(self)",
        "again": "(self)",
    },
    World: {
        "__init__": "(self, settings, *, links, askers, relays=())",
        "do": "(self, event)",
        "run": "(self, events)",
        "now": "(self)",
        "letters": "(self)",
        "holders": "(self, number)",
        "both": "(self)",
        "ever_both": "(self)",
        "reading": "(self, name)",
        "titled": "(self, number)",
        "tried": "(self)",
        "holds": "(self)",
        "state": "(self, name)",
    },
    Desk: {
        "__init__": "(self, most=4)",
        "say": "(self, row)",
        "__len__": "(self)",
    },
}


class Interface(unittest.TestCase):

    def test_functions(self):
        for module, told in FUNCTIONS.items():
            for name, arguments in told.items():
                function = getattr(module, name)
                with self.subTest(name=name):
                    self.assertEqual(function.__module__, module.__name__)
                    self.assertEqual(str(inspect.signature(function)), arguments)

    def test_values(self):
        for module, told in VALUES.items():
            for name, value in told.items():
                self.assertEqual(getattr(module, name), value)

    def test_classes(self):
        for owner, module in MODULES.items():
            self.assertEqual(owner.__module__, f"leasepair.{module}")
        self.assertEqual(set(MODULES), set(METHODS))

    def test_methods_stand_in_the_class_itself(self):
        for owner, told in METHODS.items():
            for name, arguments in told.items():
                with self.subTest(owner=owner, name=name):
                    self.assertEqual(str(inspect.signature(vars(owner)[name])), arguments)


if __name__ == "__main__":
    unittest.main()
