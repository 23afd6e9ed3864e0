"""Point 6: letters, their fields, sameness, repr and altering."""

import itertools
import random
import unittest

from leasepair import letters
from leasepair.errors import NoLetter
from leasepair.letters import Letter
from leasepair.pools import Pool

from tests.helpers import BIG, DEFAULTS, KINDS, THINGS, VALUES, WIDE, assert_same, refused, told_fields

FULL = {
    "mark": 1, "number": 2, "span": 3, "turn": 4, "count": 5, "end": -6, "who": "c", "link": "l", "via": ("r", "q"),
    "rows": ((7, 8, True, "d", 9), (1, 0, False, "", None)),
}
WRONG_AMOUNTS = (None, True, False, -1, BIG + 1, WIDE, -WIDE, "", "1", (), [], (1,), [1])
WRONG_NUMBERS = (True, False, -1, 1000000, WIDE, -WIDE, "", "7", (), [], (7,))
WRONG_ENDS = (True, False, BIG + 1, -BIG - 1, WIDE, -WIDE, "", "5", (), [], (5,))
WRONG_NAMES = (
    None, True, 0, 1, "abcdefghi", "a" * 2000, "A", "aB", "a1", "1", " ", "a ", " a", "a.b", "a-b", "`", "{", "ab{",
    "a\n", "\u00e4", (), [], ("a",), ["a"],
)
WRONG_ROWS = (
    None, True, 7, "", "abcde", (), [], (7,), (7, 0, True, ""), (7, 0, True, "", None, None), [7, 0, True, "", None],
    *[(wrong, 0, True, "", None) for wrong in (None,) + WRONG_NUMBERS],
    *[(7, wrong, True, "", None) for wrong in WRONG_AMOUNTS],
    *[(7, 0, wrong, "", None) for wrong in (None, 0, 1, 2, "", "True", (), [], (True,))],
    *[(7, 0, True, wrong, None) for wrong in WRONG_NAMES],
    *[(7, 0, True, "", wrong) for wrong in WRONG_ENDS],
)
WRONG = {
    "kind": (None, True, 0, 1, "", "Find", "find ", "finds", "fin", "asked", (), [], ("find",), ["find"]),
    "sender": ("",) + WRONG_NAMES,
    "receiver": WRONG_NAMES,
    "mark": WRONG_AMOUNTS,
    "number": WRONG_NUMBERS,
    "span": WRONG_AMOUNTS,
    "turn": WRONG_AMOUNTS,
    "count": WRONG_AMOUNTS,
    "end": WRONG_ENDS,
    "who": WRONG_NAMES,
    "link": WRONG_NAMES,
    "via": (
        None, True, 0, "", "a", "abcd", [], ["a"], ("a",) * 5, ("",), ("a", ""), ("", "a"), (("a",),), (["a"],),
        *[("a", wrong) for wrong in WRONG_NAMES], *[(wrong,) for wrong in WRONG_NAMES],
    ),
    "rows": (
        None, True, 0, "", "abcde", [], [(7, 0, True, "", None)], ((7, 0, True, "", None),) * 61, (7, 0, True, "", None),
        *[(wrong,) for wrong in WRONG_ROWS], *[((7, 0, True, "", None),) * 3 + (wrong,) for wrong in WRONG_ROWS],
        ((7, 0, True, "", None),) * 59 + (None,),
    ),
}


def some_letter(source):
    named = {name: source.choice(VALUES[name]) for name in DEFAULTS if source.random() < 0.5}
    return source.choice(KINDS), source.choice(("c", "one", "abcdefgh")), source.choice(("", "two", "d")), named


class Fields(unittest.TestCase):

    def test_kinds(self):
        self.assertEqual(letters.KINDS, KINDS)
        self.assertIs(type(letters.KINDS), tuple)
        for kind in KINDS:
            self.assertEqual(Letter(kind, "c").kind, kind)

    def test_defaults(self):
        self.assertEqual(told_fields(Letter("find", "c")), ["find", "c", ""] + list(DEFAULTS.values()))

    def test_all_fields(self):
        letter = Letter("books", "one", "two", **FULL)
        self.assertEqual(told_fields(letter), ["books", "one", "two"] + list(FULL.values()))
        for name, value in FULL.items():
            self.assertIs(type(getattr(letter, name)), type(value))

    def test_each_field_by_itself(self):
        for name, values in VALUES.items():
            for value in values + (DEFAULTS[name],):
                told = told_fields(Letter("grant", "one", "c", **{name: value}))
                self.assertEqual(told, ["grant", "one", "c"] + list({**DEFAULTS, name: value}.values()))

    def test_by_names_in_any_order(self):
        whole = {"kind": "grant", "sender": "one", "receiver": "c", "mark": 4, "via": ("r",)}
        for order in itertools.permutations(whole):
            letter = Letter(**{name: whole[name] for name in order})
            self.assertEqual(letter, Letter("grant", "one", "c", mark=4, via=("r",)))
        backwards = Letter("books", "one", "two", **dict(reversed(list(FULL.items()))))
        self.assertEqual(backwards, Letter("books", "one", "two", **FULL))
        self.assertEqual(Letter("find", receiver="two", sender="c").receiver, "two")

    def test_further_fields_stand_behind_a_star(self):
        with self.assertRaises(TypeError):
            Letter("find", "c", "", 1)

    def test_the_bounds(self):
        for name, values in VALUES.items():
            for value in values:
                self.assertEqual(getattr(Letter("told", "one", **{name: value}), name), value)
        Letter("told", "abcdefgh", "abcdefgh")
        Letter("told", "one", rows=((0, 0, False, "", None),) * 60)

    def test_truth(self):
        self.assertIs(bool(Letter("find", "c")), True)


class Sameness(unittest.TestCase):

    def test_field_by_field(self):
        full = Letter("books", "one", "two", **FULL)
        assert_same(self, full, Letter("books", "one", "two", **FULL), True)
        assert_same(self, full, Letter("told", "one", "two", **FULL), False)
        assert_same(self, full, Letter("books", "two", "two", **FULL), False)
        assert_same(self, full, Letter("books", "one", "one", **FULL), False)
        assert_same(self, full, Letter("books", "one", "", **FULL), False)
        for name, values in VALUES.items():
            for value in values + (DEFAULTS[name],):
                other = Letter("books", "one", "two", **{**FULL, name: value})
                assert_same(self, full, other, value == FULL[name])

    def test_parts_of_rows(self):
        row = (7, 8, True, "d", 9)
        letter = Letter("books", "one", rows=(row,))
        for at, part in enumerate((6, 9, False, "", None)):
            other = row[:at] + (part,) + row[at + 1:]
            assert_same(self, letter, Letter("books", "one", rows=(other,)), False)
        assert_same(self, letter, Letter("books", "one", rows=(row, row)), False)
        assert_same(self, letter, Letter("books", "one", rows=((7, 8, True, "d", 9),)), True)

    def test_fields_do_not_stand_in_for_one_another(self):
        made = [Letter("told", "one", **{name: 5}) for name in ("mark", "number", "span", "turn", "count", "end")]
        made += [Letter("told", "one", "c"), Letter("told", "one", who="c"), Letter("told", "one", link="c")]
        made += [Letter("told", "one", number=0), Letter("told", "one", end=0), Letter("told", "one")]
        for at, one in enumerate(made):
            for place, other in enumerate(made):
                assert_same(self, one, other, at == place)

    def test_unlike_what_is_no_letter(self):
        letter = Letter("offer", "one", "c", mark=1, number=7)
        others = [repr(letter), tuple(told_fields(letter)), told_fields(letter), Pool(), letters.letter_bytes(letter)]
        for thing in THINGS + others:
            assert_same(self, letter, thing, False)


class Shown(unittest.TestCase):

    def test_told_reprs(self):
        cases = (
            (Letter("offer", "one", "c", mark=1, number=7), "Letter('offer', 'one', 'c', mark=1, number=7)"),
            (Letter("find", "c"), "Letter('find', 'c', '')"),
            (Letter("find", "c", mark=0, number=None, via=()), "Letter('find', 'c', '')"),
            (Letter("give", "one", "two", number=0, end=0), "Letter('give', 'one', 'two', number=0, end=0)"),
            (Letter("find", "c", via=("r",)), "Letter('find', 'c', '', via=('r',))"),
            (
                Letter("books", "one", "two", **FULL),
                "Letter('books', 'one', 'two', mark=1, number=2, span=3, turn=4, count=5, end=-6, who='c', link='l', "
                "via=('r', 'q'), rows=((7, 8, True, 'd', 9), (1, 0, False, '', None)))",
            ),
        )
        for letter, shown in cases:
            self.assertEqual(repr(letter), shown)

    def test_any_letter(self):
        source = random.Random(21)
        for step in range(200):
            kind, sender, receiver, named = some_letter(source)
            parts = [repr(kind), repr(sender), repr(receiver)]
            parts += [f"{name}={named[name]!r}" for name in DEFAULTS if name in named]
            self.assertEqual(repr(Letter(kind, sender, receiver, **named)), f"Letter({', '.join(parts)})")

    def test_repr_leads_back(self):
        source = random.Random(22)
        for step in range(100):
            kind, sender, receiver, named = some_letter(source)
            letter = Letter(kind, sender, receiver, **named)
            self.assertEqual(eval(repr(letter), {"Letter": Letter}), letter)


class Altered(unittest.TestCase):

    CHOICES = {
        "receiver": ("", "c", "two", "abcdefgh"),
        "link": ("", "l", "abcdefgh"),
        "via": ((), ("r",), ("a", "b", "c", "d")),
    }

    def test_each_and_several(self):
        for start in ({}, {"receiver": "d"}, {"receiver": "d", **FULL}):
            letter = Letter("grant", "one", **start)
            ahead = told_fields(letter)
            for many in range(4):
                for names in itertools.combinations(self.CHOICES, many):
                    for values in itertools.product(*[self.CHOICES[name] for name in names]):
                        told = dict(zip(names, values))
                        altered = letter.altered(**told)
                        self.assertIs(type(altered), Letter)
                        self.assertEqual(told_fields(altered), told_fields(Letter("grant", "one", **{**start, **told})))
                        self.assertEqual(told_fields(letter), ahead)

    def test_none_is_what_stays(self):
        letter = Letter("grant", "one", "d", **FULL)
        self.assertEqual(letter.altered(), letter)
        self.assertEqual(letter.altered(receiver=None, link=None, via=None), letter)
        self.assertEqual(letter.altered(receiver=None, via=()), Letter("grant", "one", "d", **{**FULL, "via": ()}))

    def test_it_stands_behind_a_star(self):
        with self.assertRaises(TypeError):
            Letter("grant", "one", "d").altered("c")


class Refused(unittest.TestCase):

    RIGHT = {"kind": "books", "sender": "one", "receiver": "two", **FULL}

    def test_each_wrong_value(self):
        for name, wrongs in WRONG.items():
            for wrong in wrongs:
                with self.subTest(name=name, wrong=wrong):
                    self.assertEqual(refused(self, NoLetter, Letter, **{**self.RIGHT, name: wrong}).field, name)
                    least = {"kind": "find", "sender": "c", name: wrong}
                    self.assertEqual(refused(self, NoLetter, Letter, **least).field, name)

    def test_the_first_of_two(self):
        names = list(self.RIGHT)
        for first, second in itertools.combinations(names, 2):
            for turned in (False, True):
                wrong = [(first, WRONG[first][-1]), (second, WRONG[second][-1])]
                named = {**self.RIGHT, **dict(reversed(wrong) if turned else wrong)}
                with self.subTest(first=first, second=second):
                    self.assertEqual(refused(self, NoLetter, Letter, **named).field, first)

    def test_all_wrong(self):
        for wrong in (True, [], WIDE, "abcdefghi", (None,)):
            error = refused(self, NoLetter, Letter, **{name: wrong for name in self.RIGHT})
            self.assertEqual(error.field, "kind")

    def test_by_place(self):
        self.assertEqual(refused(self, NoLetter, Letter, None, "c").field, "kind")
        self.assertEqual(refused(self, NoLetter, Letter, "find", None).field, "sender")
        self.assertEqual(refused(self, NoLetter, Letter, "find", "c", None).field, "receiver")

    def test_any_thing(self):
        # What some field takes is left to the tests above.
        right = ["", (), None, 0, 1, 7, 999999, -1, 1000000, 10 ** 12, "a", "c", "one", "none", ("a",)]
        for name in self.RIGHT:
            for thing in THINGS:
                if not isinstance(thing, (bool, list)) and thing in right:
                    continue
                with self.subTest(name=name, thing=thing):
                    error = refused(self, NoLetter, Letter, **{**self.RIGHT, name: thing})
                    self.assertEqual(error.field, name)

    def test_the_right_call_answers_behind_a_refusal(self):
        ahead = told_fields(Letter(**self.RIGHT))
        via, rows = ["r"], [(7, 8, True, "d", 9)]
        refused(self, NoLetter, Letter, "find", "c", via=via)
        refused(self, NoLetter, Letter, "find", "c", rows=rows)
        self.assertEqual((via, rows), (["r"], [(7, 8, True, "d", 9)]))
        self.assertEqual(told_fields(Letter(**self.RIGHT)), ahead)


if __name__ == "__main__":
    unittest.main()
