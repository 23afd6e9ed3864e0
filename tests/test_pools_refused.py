"""Point 4: stretches and texts that are refused."""

import re
import unittest

from leasepair.errors import NoPool, NoText
from leasepair.pools import Pool, pool_read

from tests.helpers import THINGS, WIDE, many_singles, refused

TOP = 999999
WRONG_PAIRS = (
    None, True, False, 0, 5, "", "ab", "3-7", (), (1,), (1, 2, 3), [], [1, 2], [(1, 2)], ((1, 2),), ((1, 2), (3, 4)),
    (2, 1), (TOP, 0), (-1, 5), (-2, -1), (0, TOP + 1), (TOP + 1, TOP + 1), (TOP + 1, TOP + 2), (0, WIDE), (-WIDE, 0),
    (True, 5), (False, 5), (0, True), (True, True), (False, False), (None, 5), (5, None), (None, None),
    ("1", 2), (1, "2"), ("1", "2"), ("a", "b"), ((1,), 2), (1, (2,)), ([1], [2]),
)


def is_pool_text(text):
    """Whether a text is a pool's, by the words of point 4."""
    if text == "none":
        return True
    whole = "(0|[1-9][0-9]{0,5})"
    last = -2
    for part in text.split(","):
        found = re.fullmatch(f"{whole}(?:-{whole})?", part)
        if not found:
            return False
        low = int(found[1])
        if low < last + 2 or (found[2] is not None and int(found[2]) <= low):
            return False
        last = int(found[2] or low)
    return True


class RefusedStretches(unittest.TestCase):

    def test_first_wrong_pair(self):
        for wrong in WRONG_PAIRS:
            with self.subTest(wrong=wrong):
                self.assertEqual(refused(self, NoPool, Pool, (wrong,)).at, 0)
                self.assertEqual(refused(self, NoPool, Pool, ((1, 2), wrong)).at, 1)
                self.assertEqual(refused(self, NoPool, Pool, ((1, 2), wrong, (3, 4), wrong)).at, 1)
                self.assertEqual(refused(self, NoPool, Pool, ((5, 6),) * 19 + (wrong,)).at, 19)
                self.assertEqual(refused(self, NoPool, Pool, stretches=(wrong, None)).at, 0)

    def test_at_is_a_whole_number(self):
        self.assertIs(type(refused(self, NoPool, Pool, ((1, 2), None)).at), int)

    def test_no_such_tuple(self):
        for thing in THINGS:
            if not isinstance(thing, tuple):
                with self.subTest(thing=thing):
                    self.assertIs(refused(self, NoPool, Pool, thing).at, None)
        for thing in ([(1, 2)], [[1, 2]], [], "none", "3-7,9", {}, None, 0, True, False, 7):
            self.assertIs(refused(self, NoPool, Pool, thing).at, None)

    def test_more_than_twenty(self):
        for many in (21, 22, 60, 600):
            self.assertIs(refused(self, NoPool, Pool, ((1, 2),) * many).at, None)
            self.assertIs(refused(self, NoPool, Pool, (None,) * many).at, None)
            self.assertIs(refused(self, NoPool, Pool, tuple((k * 2, k * 2) for k in range(many))).at, None)
        self.assertIs(refused(self, NoPool, Pool, many_singles(21).stretches()).at, None)
        self.assertEqual(Pool(((1, 2),) * 20), Pool(((1, 2),)))

    def test_any_thing(self):
        for thing in THINGS:
            if thing == ():
                continue
            error = refused(self, NoPool, Pool, thing)
            if isinstance(thing, tuple) and len(thing) <= 20:
                right = [isinstance(pair, tuple) and len(pair) == 2 and pair == (1, 2) for pair in thing]
                self.assertEqual(error.at, right.index(False))
            else:
                self.assertIs(error.at, None)

    def test_the_right_call_answers_behind_a_refusal(self):
        handed = [(1, 2), (4, 4)]
        refused(self, NoPool, Pool, handed)
        self.assertEqual(handed, [(1, 2), (4, 4)])
        self.assertEqual(str(Pool(tuple(handed))), "1-2,4")


class RefusedTexts(unittest.TestCase):

    WRONG = (
        "", " ", ",", "-", "--", "none ", " none", "None", "NONE", "non", "nonee", "none,none", "none,3", "3,none",
        "03", "00", "0-07", "00-7", "03-7", "3-07", "3-7,09", "-0", "+3", "-3", "3-", "-3-7", "3--7", "3-7-9", "3-+7",
        "3 ", " 3", "3 -7", "3- 7", "3-7, 9", "3-7 ,9", "3-7,9 ", " 3-7,9", "3-7\n", "3-7,9\n", "3\t",
        "3-7,", ",3-7", "3-7,,9", "3-7;9", "3-7.9", "3..7", "3_7", "3-7,9,",
        "9-9", "0-0", "999999-999999", "3-7,9-9", "3-3,9",
        "9,3-7", "3-7,5", "3-7,8", "3-7,7", "3-7,5-9", "3-7,8-9", "3-7,3-7", "3,3", "3,4", "4,3", "3-9,5-6", "1,3,2",
        "7-3", "1-0", "999999-0", "1000000", "0-1000000", "999999-1000000", "9999999", "1000000-1000001",
        "1" * 60, "0-" + "9" * 60, "9" * 2000, "~" * 2000, "," * 2000, "-" * 2000, "1" * 5000,
        "a", "3a", "a-b", "0x3", "3e1", "1_0", "Pool(())", "((3, 7), (9, 9))", "(3, 7)", "3.0", "true", "\u0663", "\u00b2",
        "\u0663-\u0667", "\uff13",
    )

    def test_wrong_texts(self):
        for text in self.WRONG:
            with self.subTest(text=text):
                refused(self, NoText, pool_read, text)

    def test_any_text(self):
        for thing in THINGS:
            if isinstance(thing, str) and not is_pool_text(thing):
                refused(self, NoText, pool_read, thing)

    def check(self, text):
        if is_pool_text(text):
            self.assertEqual(str(pool_read(text)), text)
        else:
            with self.subTest(text=text):
                refused(self, NoText, pool_read, text)

    def test_signs_put_in_taken_out_exchanged(self):
        many = ",".join(str(number) for number in range(0, 50, 2))
        for text in ("none", "0", "7", "3-7,9", "0-999999", "10-20,40-50,100", "0,2,4-9,11,999998-999999", many):
            for at in range(len(text) + 1):
                for sign in "0123456789-, n~a":
                    self.check(text[:at] + sign + text[at:])
                    if at < len(text):
                        self.check(text[:at] + sign + text[at + 1:])
                self.check(text[:at] + text[at + 1:])
                for other in range(at + 1, len(text)):
                    self.check(text[:at] + text[other] + text[at + 1:other] + text[at] + text[other + 1:])

    def test_the_right_call_answers_behind_a_refusal(self):
        refused(self, NoText, pool_read, "3-7,8")
        self.assertEqual(pool_read("3-8").stretches(), ((3, 8),))


if __name__ == "__main__":
    unittest.main()
