"""The bytes of a letter's values, as lists of numbers 0 to 255, and the check behind them.

A field that is left out has no bytes, and no field that is written has none: so here
no bytes stand for a field's default, both ways.
"""

from leasepair.checks import NAME_SIGNS
from leasepair.errors import NoBytes

NUMBER_SIZE = 3
AMOUNT_SIZE = 6
ROW_SIZE = 17
NO_END = (0, 0, 0, 0, 0, 0, 0)
FROM_NOUGHT_ON = 1
BELOW_NOUGHT = 2
DOT = 46
CHECK_SIZE = 2
CHECK_ROUND = 256
CHECK_PRIME = 257


def whole_bytes(whole, size):
    """So many bytes of a whole number from 0 on, the highest first."""
    data = []
    left = whole
    while len(data) < size:
        data.append(left % 256)
        left = left // 256
    return data[::-1]


def whole_of(data):
    whole = 0
    for byte in data:
        whole = whole * 256 + byte
    return whole


def amount_bytes(amount):
    return [] if amount == 0 else whole_bytes(amount, AMOUNT_SIZE)


def number_bytes(number):
    return [] if number is None else whole_bytes(number, NUMBER_SIZE)


def number_of(data):
    return None if data == [] else whole_of(data)


def text_bytes(text):
    return [ord(sign) for sign in text]


def text_of(data):
    return "".join([sign_of(byte) for byte in data])


def sign_of(byte):
    if byte == DOT:
        return "."
    place = byte - ord(NAME_SIGNS[0])
    if not 0 <= place < len(NAME_SIGNS):
        raise NoBytes("a byte is no sign of a name")
    return NAME_SIGNS[place]


def via_bytes(via):
    return text_bytes(".".join(via))


def via_of(data):
    return () if data == [] else tuple(text_of(data).split("."))


def end_bytes(end):
    if end is None:
        return []
    sign = BELOW_NOUGHT if end < 0 else FROM_NOUGHT_ON
    return [sign] + whole_bytes(abs(end), AMOUNT_SIZE)


def end_of(data):
    if data == []:
        return None
    if data[0] == FROM_NOUGHT_ON:
        return whole_of(data[1:])
    if data[0] == BELOW_NOUGHT:
        return -whole_of(data[1:])
    raise NoBytes("an end has no such sign")


def row_bytes(row):
    number, count, title, who, end = row
    data = whole_bytes(number, NUMBER_SIZE) + whole_bytes(count, AMOUNT_SIZE)
    data.append(1 if title else 0)
    # In a row the place of a missing end is filled: what is behind it has no code of its own.
    data.extend(list(NO_END) if end is None else end_bytes(end))
    data.extend(text_bytes(who))
    return data


def row_of(data):
    if len(data) < ROW_SIZE:
        raise NoBytes("a row is cut off")
    number = whole_of(data[:3])
    count = whole_of(data[3:9])
    title = data[9] == 1
    written_end = data[10:17]
    end = None if written_end == list(NO_END) else end_of(written_end)
    return number, count, title, text_of(data[ROW_SIZE:]), end


def check_bytes(data):
    """The check of all bytes ahead of it."""
    total = sum([byte * (place % CHECK_ROUND + 1) for place, byte in enumerate(data)])
    return whole_bytes(total % CHECK_PRIME, CHECK_SIZE)
