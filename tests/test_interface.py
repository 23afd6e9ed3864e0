"""The interface: names, arguments and defaults, and where each thing is defined."""

import inspect
import unittest

from leasepair import letters, pools
from leasepair.letters import Letter
from leasepair.pools import Pool

FUNCTIONS = {
    pools: {"pool_read": "(text)"},
    letters: {"letter_bytes": "(letter)", "letter_read": "(data)"},
}
METHODS = {
    Pool: {
        "__init__": "(self, stretches=())",
        "stretches": "(self)",
        "has": "(self, number)",
        "number_at": "(self, place)",
        "place_of": "(self, number)",
        "first_from": "(self, low=0, *, but=())",
        "joined": "(self, other)",
        "met": "(self, other)",
        "without": "(self, other)",
        "dealt": "(self, *, one=1, other=1)",
        "__eq__": "(self, other)",
        "__len__": "(self)",
        "__str__": "(self)",
        "__repr__": "(self)",
    },
    Letter: {
        "__init__": (
            "(self, kind, sender, receiver='', *, mark=0, number=None, span=0, turn=0, count=0, end=None, who='', "
            "link='', via=(), rows=())"
        ),
        "altered": "(self, *, receiver=None, link=None, via=None)",
        "__eq__": "(self, other)",
        "__repr__": "(self)",
    },
}


class Interface(unittest.TestCase):

    def test_functions(self):
        for module, told in FUNCTIONS.items():
            for name, arguments in told.items():
                function = getattr(module, name)
                with self.subTest(name=name):
                    self.assertEqual(function.__module__, module.__name__)
                    self.assertEqual(str(inspect.signature(function)), arguments)

    def test_classes(self):
        self.assertEqual(Pool.__module__, "leasepair.pools")
        self.assertEqual(Letter.__module__, "leasepair.letters")

    def test_methods_stand_in_the_class_itself(self):
        for owner, told in METHODS.items():
            for name, arguments in told.items():
                with self.subTest(owner=owner, name=name):
                    self.assertEqual(str(inspect.signature(vars(owner)[name])), arguments)


if __name__ == "__main__":
    unittest.main()
