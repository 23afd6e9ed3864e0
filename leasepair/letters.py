"""Letters, and the bytes in which they are written."""

from leasepair.checks import MOST_WHOLE, is_name, is_number, is_short_whole, is_whole_within
from leasepair.codes import CHECK_SIZE, amount_bytes, check_bytes, end_bytes, end_of, number_bytes, number_of
from leasepair.codes import row_bytes, row_of, text_bytes, text_of, via_bytes, via_of, whole_of
from leasepair.errors import NoBytes, NoLetter

KINDS = (
    "find", "offer", "want", "grant", "deny", "renew", "free", "spoil", "told", "seen", "give", "back", "books",
)
MOST_NAMES = 4
MOST_ROWS = 60
ROWS_CODE = 12


class Letter:
    """A letter of a kind, from a sender to a receiver; "" is both keepers."""

    def __init__(self, kind, sender, receiver="", *, mark=0, number=None, span=0, turn=0, count=0,
                 end=None, who="", link="", via=(), rows=()):
        self.kind = kind
        self.sender = sender
        self.receiver = receiver
        self.mark = mark
        self.number = number
        self.span = span
        self.turn = turn
        self.count = count
        self.end = end
        self.who = who
        self.link = link
        self.via = via
        self.rows = rows
        refuse_wrong_field(self)

    def altered(self, *, receiver=None, link=None, via=None):
        """A letter with these otherwise; None for what stays."""
        return Letter(
            self.kind,
            self.sender,
            self.receiver if receiver is None else receiver,
            mark=self.mark,
            number=self.number,
            span=self.span,
            turn=self.turn,
            count=self.count,
            end=self.end,
            who=self.who,
            link=self.link if link is None else link,
            via=self.via if via is None else via,
            rows=self.rows,
        )

    def __eq__(self, other):
        return isinstance(other, Letter) and all_fields(self) == all_fields(other)

    def __repr__(self):
        shown = [repr(self.kind), repr(self.sender), repr(self.receiver)]
        shown += [f"{name}={value!r}" for name, value, default in further_fields(self) if value != default]
        return f"Letter({', '.join(shown)})"


def letter_bytes(letter):
    """The letter's bytes: its kind, each field that isn't left out, the check."""
    data = [KINDS.index(letter.kind) + 1]
    for code, value in coded_fields(letter):
        data.append(code)
        data.append(len(value))
        data.extend(value)
    return data + check_bytes(data)


def letter_read(data):
    """The letter whose bytes these are."""
    if len(data) <= CHECK_SIZE or not 1 <= data[0] <= len(KINDS):
        raise NoBytes("no kind of a letter")
    try:
        letter = letter_of(KINDS[data[0] - 1], split_fields(data))
    except NoLetter:
        raise NoBytes("no letter has such fields") from None
    # Each letter has one list of bytes only: this refuses a wrong check, fields in
    # another order, told twice or with their defaults, and values of another size.
    if letter_bytes(letter) != data:
        raise NoBytes("a letter is not written so")
    return letter


def all_fields(letter):
    further = [value for name, value, default in further_fields(letter)]
    return [letter.kind, letter.sender, letter.receiver] + further


def further_fields(letter):
    """Name, value and default of each field that may be left out, in the interface's order."""
    return [
        ("mark", letter.mark, 0),
        ("number", letter.number, None),
        ("span", letter.span, 0),
        ("turn", letter.turn, 0),
        ("count", letter.count, 0),
        ("end", letter.end, None),
        ("who", letter.who, ""),
        ("link", letter.link, ""),
        ("via", letter.via, ()),
        ("rows", letter.rows, ()),
    ]


def refuse_wrong_field(letter):
    for name, is_right in judged_fields(letter):
        if not is_right:
            raise NoLetter(name)


def judged_fields(letter):
    """Name of each field and whether it is as told, in the interface's order."""
    return [
        ("kind", is_kind(letter.kind)),
        ("sender", is_name(letter.sender)),
        ("receiver", is_name_or_empty(letter.receiver)),
        ("mark", is_amount(letter.mark)),
        ("number", letter.number is None or is_number(letter.number)),
        ("span", is_amount(letter.span)),
        ("turn", is_amount(letter.turn)),
        ("count", is_amount(letter.count)),
        ("end", is_end(letter.end)),
        ("who", is_name_or_empty(letter.who)),
        ("link", is_name_or_empty(letter.link)),
        ("via", is_via(letter.via)),
        ("rows", are_rows(letter.rows)),
    ]


def is_kind(thing):
    return isinstance(thing, str) and thing in KINDS


def is_name_or_empty(thing):
    return is_name(thing) or (isinstance(thing, str) and thing == "")


def is_amount(thing):
    return is_whole_within(thing, 0, MOST_WHOLE)


def is_end(thing):
    return thing is None or is_short_whole(thing)


def is_via(thing):
    if not isinstance(thing, tuple) or len(thing) > MOST_NAMES:
        return False
    return all([is_name(name) for name in thing])


def are_rows(thing):
    if not isinstance(thing, tuple) or len(thing) > MOST_ROWS:
        return False
    return all([is_row(row) for row in thing])


def is_row(thing):
    if not isinstance(thing, tuple) or len(thing) != 5:
        return False
    number, count, title, who, end = thing
    if not is_number(number) or not is_amount(count) or not isinstance(title, bool):
        return False
    return is_name_or_empty(who) and is_end(end)


def coded_fields(letter):
    """Code and bytes of each field that isn't left out, each row by itself."""
    values = [
        text_bytes(letter.sender),
        text_bytes(letter.receiver),
        amount_bytes(letter.mark),
        number_bytes(letter.number),
        amount_bytes(letter.span),
        amount_bytes(letter.turn),
        amount_bytes(letter.count),
        end_bytes(letter.end),
        text_bytes(letter.who),
        text_bytes(letter.link),
        via_bytes(letter.via),
    ]
    coded = [(code, value) for code, value in enumerate(values, start=1) if value != []]
    return coded + [(ROWS_CODE, row_bytes(row)) for row in letter.rows]


def split_fields(data):
    """Code and bytes of each field between the kind and the check."""
    fields = []
    stop = len(data) - CHECK_SIZE
    at = 1
    while at < stop:
        begin = at + 2
        after = begin + data[at + 1]
        if not begin <= after <= stop:
            raise NoBytes("a field is cut off")
        fields.append((data[at], data[begin:after]))
        at = after
    return fields


def letter_of(kind, fields):
    """A letter of the fields' codes and bytes; letter_read sees to how they are written."""
    values = {code: [] for code in range(1, ROWS_CODE)}
    rows = []
    for code, value in fields:
        if code == ROWS_CODE:
            rows.append(row_of(value))
        else:
            values[code] = value
    return Letter(
        kind,
        text_of(values[1]),
        text_of(values[2]),
        mark=whole_of(values[3]),
        number=number_of(values[4]),
        span=whole_of(values[5]),
        turn=whole_of(values[6]),
        count=whole_of(values[7]),
        end=end_of(values[8]),
        who=text_of(values[9]),
        link=text_of(values[10]),
        via=via_of(values[11]),
        rows=tuple(rows),
    )
