"""Point 7: the bytes of letters, and reading them."""

import random
import unittest

from leasepair.errors import NoBytes
from leasepair.letters import Letter, letter_bytes, letter_read

from tests.helpers import BIG, DEFAULTS, KINDS, VALUES, refused, told_fields

SENDER, RECEIVER, MARK, NUMBER, SPAN, TURN, COUNT, END, WHO, LINK, VIA, ROWS = range(1, 13)
ROW = (7, 8, True, "d", -9)


def sealed(body):
    """A body of bytes with its check, by the words of point 7."""
    rest = 0
    for place in range(len(body)):
        rest += body[place] * ((place % 256) + 1)
    return list(body) + list((rest % 257).to_bytes(2, "big"))


def field(code, value):
    return [code, len(value)] + list(value)


def six(whole):
    return whole.to_bytes(6, "big")


def end_value(end):
    return bytes([2 if end < 0 else 1]) + six(abs(end))


def row_value(row):
    number, count, title, who, end = row
    written_end = bytes(7) if end is None else end_value(end)
    return number.to_bytes(3, "big") + six(count) + bytes([1 if title else 0]) + written_end + who.encode("ascii")


def expected_bytes(letter):
    """The letter's bytes, reckoned field by field by the words of point 7."""
    body = [KINDS.index(letter.kind) + 1] + field(SENDER, letter.sender.encode("ascii"))
    if letter.receiver != "":
        body += field(RECEIVER, letter.receiver.encode("ascii"))
    if letter.mark != 0:
        body += field(MARK, six(letter.mark))
    if letter.number is not None:
        body += field(NUMBER, letter.number.to_bytes(3, "big"))
    for code, amount in ((SPAN, letter.span), (TURN, letter.turn), (COUNT, letter.count)):
        if amount != 0:
            body += field(code, six(amount))
    if letter.end is not None:
        body += field(END, end_value(letter.end))
    for code, name in ((WHO, letter.who), (LINK, letter.link)):
        if name != "":
            body += field(code, name.encode("ascii"))
    if letter.via != ():
        body += field(VIA, b".".join(name.encode("ascii") for name in letter.via))
    for row in letter.rows:
        body += field(ROWS, row_value(row))
    return sealed(body)


def each_letter():
    """Letters of each kind, with each field by itself, with all, and with any of them."""
    for kind in KINDS:
        yield Letter(kind, "c")
        for sender in ("one", "abcdefgh", "az"):
            yield Letter(kind, sender, "two")
    for name, values in VALUES.items():
        for value in values:
            yield Letter("told", "one", "c", **{name: value})
    source = random.Random(31)
    for step in range(150):
        named = {name: source.choice(VALUES[name]) for name in DEFAULTS if source.random() < 0.5}
        yield Letter(source.choice(KINDS), source.choice(("c", "one")), source.choice(("", "two", "d")), **named)
    yield Letter("books", "abcdefgh", "abcdefgh", **{name: values[-1] for name, values in VALUES.items()})
    yield Letter("books", "one", "two", rows=((999999, BIG, True, "abcdefgh", -BIG),) * 60)


FEW_LETTERS = (
    Letter("find", "c"),
    Letter("offer", "one", "c", mark=1, number=7, link="l", via=("r", "q")),
    Letter("told", "two", "one", number=999999, count=BIG, who="d", end=-256),
    Letter("books", "one", "two", mark=3, rows=(ROW, (1, 0, False, "", None))),
)
LONG_LETTER = Letter("books", "one", "two", mark=3, rows=(ROW, (1, 0, False, "", None)) * 12)
SIXTY_ROWS = Letter("books", "one", "two", mark=3, rows=(ROW,) * 60)


class Written(unittest.TestCase):

    def test_told_bytes(self):
        cases = (
            (Letter("find", "c"), [1, 1, 1, 99]),
            (
                Letter("offer", "one", "c", mark=1, number=7),
                [2, 1, 3, 111, 110, 101, 2, 1, 99, 3, 6, 0, 0, 0, 0, 0, 1, 4, 3, 0, 0, 7],
            ),
            (
                Letter("seen", "two", "one", number=0, count=258, end=-1),
                [10, 1, 3, 116, 119, 111, 2, 3, 111, 110, 101, 4, 3, 0, 0, 0, 7, 6, 0, 0, 0, 0, 1, 2,
                 8, 7, 2, 0, 0, 0, 0, 0, 1],
            ),
            (
                Letter("grant", "one", "c", span=60, turn=2, link="l", via=("r", "qq"), end=0, who="z"),
                [4, 1, 3, 111, 110, 101, 2, 1, 99, 5, 6, 0, 0, 0, 0, 0, 60, 6, 6, 0, 0, 0, 0, 0, 2,
                 8, 7, 1, 0, 0, 0, 0, 0, 0, 9, 1, 122, 10, 1, 108, 11, 4, 114, 46, 113, 113],
            ),
            (
                Letter("books", "a", rows=((7, 8, True, "d", -9), (65536, 0, False, "", None))),
                [13, 1, 1, 97, 12, 18, 0, 0, 7, 0, 0, 0, 0, 0, 8, 1, 2, 0, 0, 0, 0, 0, 9, 100,
                 12, 17, 1, 0, 0, 0, 0, 0, 0, 0, 0, 0, 0, 0, 0, 0, 0, 0, 0],
            ),
        )
        for letter, body in cases:
            with self.subTest(letter=letter):
                self.assertEqual(letter_bytes(letter), sealed(body))

    def test_a_told_check(self):
        # 1 * 1 + 1 * 2 + 1 * 3 + 99 * 4 is 402, its rest by 257 is 145.
        self.assertEqual(letter_bytes(Letter("find", "c")), [1, 1, 1, 99, 0, 145])

    def test_a_check_of_256(self):
        bodies = [expected_bytes(Letter("find", "c", mark=mark)) for mark in range(1, 600)]
        marks = [at + 1 for at, data in enumerate(bodies) if data[-2:] == [1, 0]]
        self.assertTrue(marks)
        for mark in marks:
            letter = Letter("find", "c", mark=mark)
            self.assertEqual(letter_bytes(letter)[-2:], [1, 0])
            self.assertEqual(letter_read(letter_bytes(letter)), letter)

    def test_each_letter(self):
        for letter in each_letter():
            ahead = told_fields(letter)
            data = letter_bytes(letter)
            self.assertIs(type(data), list)
            self.assertEqual({type(byte) for byte in data}, {int})
            self.assertEqual(data, expected_bytes(letter), letter)
            self.assertEqual(told_fields(letter), ahead)

    def test_by_name(self):
        letter = FEW_LETTERS[1]
        self.assertEqual(letter_bytes(letter=letter), expected_bytes(letter))
        self.assertEqual(letter_read(data=expected_bytes(letter)), letter)

    def test_a_told_list_is_the_askers_own(self):
        for letter in FEW_LETTERS + (SIXTY_ROWS,):
            data = letter_bytes(letter)
            kept = list(data)
            data[0] = 99
            data.append(5)
            again = letter_bytes(letter)
            self.assertEqual(again, kept)
            again.clear()
            self.assertEqual(letter_bytes(letter), kept)
            self.assertEqual(letter_read(kept), letter)


class Read(unittest.TestCase):

    def test_what_is_written_is_read_to_the_same(self):
        for letter in each_letter():
            data = expected_bytes(letter)
            kept = list(data)
            read = letter_read(data)
            self.assertIs(type(read), Letter)
            self.assertEqual(read, letter)
            self.assertEqual(told_fields(read), told_fields(letter))
            self.assertEqual(repr(read), repr(letter))
            self.assertEqual(data, kept)

    def test_a_list_changed_behind_reading(self):
        letter = FEW_LETTERS[3]
        data = letter_bytes(letter)
        read = letter_read(data)
        data[:] = [0] * len(data)
        self.assertEqual(read, letter)


class OtherBytes(unittest.TestCase):

    def assert_not_read(self, data):
        # Plainer than helpers.refused, since it is called many thousand times.
        kept = list(data)
        try:
            letter_read(data)
        except NoBytes as error:
            self.assertIs(type(error), NoBytes)
            self.assertEqual(data, kept)
        else:
            self.fail(f"read: {data}")

    def test_each_byte_put_otherwise(self):
        for letter in FEW_LETTERS:
            data = letter_bytes(letter)
            for place, right in enumerate(data):
                for byte in range(256):
                    if byte != right:
                        self.assert_not_read(data[:place] + [byte] + data[place + 1:])
            self.assertEqual(letter_read(data), letter)

    def test_a_byte_of_a_long_letter_put_otherwise(self):
        for letter, step in ((LONG_LETTER, 1), (SIXTY_ROWS, 11)):
            data = letter_bytes(letter)
            self.assertGreater(len(data), 400)
            for place in range(0, len(data), step):
                for change in (1, 128, 255):
                    self.assert_not_read(data[:place] + [(data[place] + change) % 256] + data[place + 1:])
            for place in (len(data) - 2, len(data) - 1):
                for byte in range(256):
                    if byte != data[place]:
                        self.assert_not_read(data[:place] + [byte] + data[place + 1:])

    def test_two_bytes_exchanged(self):
        for letter in FEW_LETTERS:
            data = letter_bytes(letter)
            for one in range(len(data) - 2):
                for other in range(one):
                    if data[one] != data[other]:
                        changed = list(data)
                        changed[one], changed[other] = data[other], data[one]
                        self.assert_not_read(changed)

    def test_two_bytes_of_a_long_letter_exchanged(self):
        data = letter_bytes(LONG_LETTER)
        source = random.Random(32)
        for step in range(2000):
            one, other = source.randrange(len(data) - 2), source.randrange(len(data) - 2)
            if data[one] != data[other] and one % 256 != other % 256:
                changed = list(data)
                changed[one], changed[other] = data[other], data[one]
                self.assert_not_read(changed)

    def test_a_check_with_the_same_rest(self):
        for letter in FEW_LETTERS:
            data = letter_bytes(letter)
            check = data[-2] * 256 + data[-1]
            for other in range(check + 257, 65536, 257):
                self.assert_not_read(data[:-2] + [other // 256, other % 256])

    def test_cut_off_and_lengthened(self):
        for letter in FEW_LETTERS + (LONG_LETTER,):
            data = letter_bytes(letter)
            whole = {1 + sum(sizes) for sizes in self.whole_starts(data)}
            for many in range(len(data)):
                self.assert_not_read(data[:many])
            for many in range(len(data) - 2):
                if many not in whole:
                    self.assert_not_read(sealed(data[:many]))
            for byte in (0, 1, 12, 255):
                self.assert_not_read(data + [byte])
                self.assert_not_read(sealed(data[:-2] + [byte]))
                self.assert_not_read(sealed(data[:-2] + [byte, 1]))
                self.assert_not_read([byte] + data)
            self.assert_not_read(sealed(data))

    def whole_starts(self, data):
        """The sizes of the fields ahead of each place where a field ends, the sender among them."""
        sizes = []
        at = 1
        while at < len(data) - 2:
            sizes.append(2 + data[at + 1])
            at += sizes[-1]
            yield list(sizes)


class CheckMadeAnew(unittest.TestCase):
    """Bytes whose check is right, and that are no letter's all the same."""

    HEAD = [2] + field(SENDER, b"one")

    def assert_refused(self, body):
        refused(self, NoBytes, letter_read, sealed(body))

    def assert_no_value(self, code, *values):
        for value in values:
            with self.subTest(code=code, value=bytes(value)):
                self.assert_refused(self.HEAD + field(code, value))
                self.assert_refused(self.HEAD + field(RECEIVER, b"c") * (code > RECEIVER) + field(code, value))

    def test_the_head_alone_is_read(self):
        self.assertEqual(letter_read(sealed(self.HEAD)), Letter("offer", "one"))

    def test_too_few_bytes(self):
        for data in ([], [0], [1], [0, 0], [1, 0], [1, 1], [0, 0, 0], [1, 0, 1], [13, 0, 13], sealed([1]), sealed([])):
            refused(self, NoBytes, letter_read, data)
        for kind in range(256):
            self.assert_refused([kind])

    def test_kinds(self):
        for kind in range(256):
            body = [kind] + field(SENDER, b"c")
            if 1 <= kind <= 13:
                self.assertEqual(letter_read(sealed(body)), Letter(KINDS[kind - 1], "c"))
            else:
                self.assert_refused(body)

    def test_fields_in_another_order(self):
        fields = [
            field(SENDER, b"one"), field(RECEIVER, b"c"), field(MARK, six(1)), field(NUMBER, [0, 0, 7]),
            field(SPAN, six(2)), field(TURN, six(3)), field(COUNT, six(4)), field(END, end_value(5)), field(WHO, b"d"),
            field(LINK, b"l"), field(VIA, b"r"), field(ROWS, row_value(ROW)),
        ]
        self.assertEqual(letter_read(sealed([2] + sum(fields, []))).rows, (ROW,))
        for one in range(len(fields)):
            for other in range(one):
                turned = list(fields)
                turned[one], turned[other] = fields[other], fields[one]
                self.assert_refused([2] + sum(turned, []))

    def test_fields_twice(self):
        cases = (
            (SENDER, b"one", b"two"), (RECEIVER, b"c", b"d"), (MARK, six(1), six(2)), (NUMBER, [0, 0, 7], [0, 0, 8]),
            (SPAN, six(1), six(2)), (TURN, six(1), six(2)), (COUNT, six(1), six(2)), (END, end_value(1), end_value(-1)),
            (WHO, b"c", b"d"), (LINK, b"l", b"m"), (VIA, b"r", b"q"),
        )
        for code, value, other in cases:
            head = [2] if code == SENDER else self.HEAD
            letter_read(sealed(head + field(code, value)))
            for again in (value, other):
                with self.subTest(code=code):
                    self.assert_refused(head + field(code, value) + field(code, again))

    def test_what_is_left_out_is_not_written(self):
        for code in (MARK, SPAN, TURN, COUNT):
            self.assert_no_value(code, six(0))
        self.assert_no_value(END, bytes(7))
        for code in range(SENDER, ROWS + 1):
            self.assert_no_value(code, b"")

    def test_amounts(self):
        for code in (MARK, SPAN, TURN, COUNT):
            letter_read(sealed(self.HEAD + field(code, six(BIG))))
            self.assert_no_value(
                code, six(BIG + 1), b"\xff" * 6, b"\x01", bytes(4) + b"\x01", bytes(6) + b"\x01", six(5) + b"\x00",
                b"\x01" * 200, b"\xff" * 255,
            )

    def test_numbers(self):
        letter_read(sealed(self.HEAD + field(NUMBER, (999999).to_bytes(3, "big"))))
        letter_read(sealed(self.HEAD + field(NUMBER, bytes(3))))
        self.assert_no_value(
            NUMBER, (1000000).to_bytes(3, "big"), b"\xff" * 3, b"\x07", b"\x00\x07", bytes(3) + b"\x07", six(7),
            b"\x07" * 100, bytes(1), bytes(2), bytes(4),
        )

    def test_ends(self):
        for end in (0, 1, -1, BIG, -BIG):
            self.assertEqual(letter_read(sealed(self.HEAD + field(END, end_value(end)))).end, end)
        self.assert_no_value(
            END, b"\x02" + six(0), b"\x00" + six(5), b"\x03" + six(5), b"\xff" + six(5), b"\x01" + six(BIG + 1),
            b"\x02" + six(BIG + 1), b"\x01", b"\x02", b"\x01\x05", b"\x01" + bytes(6) + b"\x05", b"\x01" + bytes(5),
            six(5), b"\x01" + b"\xff" * 6, b"\x00", bytes(6), bytes(8), b"\x01" * 200,
        )

    def test_names(self):
        wrong = [
            b"abcdefghi", b"A", b"aB", b"`", b"{", b"a{", b"`a", b".", b"a.b", b"a.", b".a", b" ", b"a ", b"1", b"a1",
            b"\x00", b"a\x00", b"\xff", b"a" * 255, b"-", b"*",
        ]
        for code in (RECEIVER, WHO, LINK):
            self.assert_no_value(code, *wrong)
            letter_read(sealed(self.HEAD + field(code, b"azabcdef")))
        for value in wrong + [b""]:
            self.assert_refused([2] + field(SENDER, value))
        for byte in range(256):
            body = [2] + field(SENDER, [byte])
            if 97 <= byte <= 122:
                self.assertEqual(letter_read(sealed(body)).sender, bytes([byte]).decode("ascii"))
            else:
                self.assert_refused(body)

    def test_no_sender(self):
        self.assert_refused([2])
        self.assert_refused([2] + field(RECEIVER, b"c"))
        self.assert_refused([2] + field(MARK, six(1)))
        self.assert_refused([2] + field(ROWS, row_value(ROW)))
        self.assert_refused([2] + field(SENDER, b"") + field(RECEIVER, b"c"))

    def test_via(self):
        self.assertEqual(letter_read(sealed(self.HEAD + field(VIA, b"a.b.c.d"))).via, ("a", "b", "c", "d"))
        self.assert_no_value(
            VIA, b".", b"a.", b".a", b"a..b", b"..", b"a.b.c.d.e", b"a.b.c.d.", b"abcdefghi", b"a.abcdefghi", b"a,b",
            b"a b", b"A", b"a.B", b"a/b", b"a-b", b"\x00", b"a.\x00", b"a" * 255, b"a." * 127,
        )

    def test_codes(self):
        for code in [0] + list(range(13, 256)):
            for value in (b"", b"c", six(1), row_value(ROW)):
                self.assert_refused(self.HEAD + field(code, value))
        self.assert_refused([2] + field(0, b"x") + field(SENDER, b"one"))

    def test_cut_off(self):
        for code in range(1, 13):
            self.assert_refused(self.HEAD + [code])
            self.assert_refused(self.HEAD + [code, 1])
            self.assert_refused(self.HEAD + [code, 7, 1, 0, 0, 0, 0, 0])
            self.assert_refused(self.HEAD + [code, 255] + [97] * 254)
        self.assert_refused([2, SENDER])
        self.assert_refused([2, SENDER, 1])
        self.assert_refused([2, SENDER, 2, 97])

    def test_a_field_that_reaches_into_the_check(self):
        for reach in (1, 2, 3):
            for code in (RECEIVER, WHO, LINK, VIA):
                self.assert_refused(self.HEAD + [code, 1 + reach, 97])

    def test_rows(self):
        right = row_value(ROW)
        self.assertEqual(letter_read(sealed(self.HEAD + field(ROWS, right))).rows, (ROW,))
        self.assert_no_value(ROWS, *[right[:many] for many in range(17)])
        self.assert_no_value(ROWS, *[right[:9] + bytes([title]) + right[10:] for title in (2, 3, 97, 255)])
        self.assert_no_value(
            ROWS,
            (1000000).to_bytes(3, "big") + right[3:], b"\xff" * 3 + right[3:],
            right[:3] + six(BIG + 1) + right[9:], right[:3] + b"\xff" * 6 + right[9:],
            right[:10] + b"\x00" + six(5) + right[17:], right[:10] + b"\x03" + six(5) + right[17:],
            right[:10] + b"\x02" + six(0) + right[17:], right[:10] + b"\x01" + six(BIG + 1) + right[17:],
            right[:10] + b"\x02" + six(BIG + 1) + right[17:], right[:10] + b"\xff" * 7 + right[17:],
            right[:17] + b"abcdefghi", right[:17] + b"A", right[:17] + b".", right[:17] + b"a.b", right[:17] + b"\x00",
            right[:17] + b"a\x00", right[:17] + b"{", right[:17] + b"`", right[:17] + b"a" * 238,
        )

    def test_many_rows(self):
        row = field(ROWS, row_value(ROW))
        self.assertEqual(letter_read(sealed(self.HEAD + row * 60)).rows, (ROW,) * 60)
        for many in (61, 62, 180):
            self.assert_refused(self.HEAD + row * many)
        self.assert_refused(self.HEAD + row * 3 + field(LINK, b"l") + row)
        self.assert_refused(self.HEAD + field(ROWS, row_value(ROW) * 2))

    def test_any_bytes(self):
        source = random.Random(33)
        for step in range(3000):
            body = [source.choice((0, 1, 2, 3, 6, 7, 12, 97, 99, 255)) for many in range(source.randrange(40))]
            for data in (body, sealed(body)):
                try:
                    letter = letter_read(data)
                except NoBytes as error:
                    self.assertIs(type(error), NoBytes)
                else:
                    self.assertEqual(expected_bytes(letter), data)

    def test_the_most_bytes(self):
        for byte in (0, 1, 12, 97, 255):
            refused(self, NoBytes, letter_read, [byte] * 5000)
            refused(self, NoBytes, letter_read, sealed([byte] * 4998))

    def test_the_right_call_answers_behind_a_refusal(self):
        for letter in FEW_LETTERS:
            data = letter_bytes(letter)
            self.assert_refused(data)
            self.assertEqual(letter_read(data), letter)
            self.assertEqual(letter_bytes(letter), data)


if __name__ == "__main__":
    unittest.main()
