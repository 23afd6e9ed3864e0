"""Askers, to whom keepers lend numbers."""

from leasepair.errors import NoDeed
from leasepair.letters import Letter

IDLE = "idle"
ASKED = "asked"
WANTING = "wanting"
HOLDING = "holding"


class Asker:
    """An asker of a name; with every deed and question it is handed its clock's reading."""

    def __init__(self, name):
        self.name = name
        self.marks = 0
        self.come_idle()

    def state(self, reading):
        return IDLE if self.is_over(reading) else self.phase

    def held(self, reading):
        return self.number if self.is_holding(reading) else None

    def held_to(self, reading):
        return self.end if self.is_holding(reading) else None

    def due(self, reading):
        """What it should do about the number that it holds."""
        if not self.is_holding(reading):
            return "none"
        left = self.end - reading
        if 2 * left > self.span:
            return "keep"
        return "all" if 8 * left < self.span else "renew"

    def seek(self, reading):
        if self.is_holding(reading):
            raise NoDeed("seek")
        self.come_idle()
        self.phase = ASKED
        return self.ask("find", "", reading)

    def renew(self, reading):
        if not self.is_holding(reading):
            raise NoDeed("renew")
        receiver = "" if self.due(reading) == "all" else self.keeper
        return self.ask("renew", receiver, reading, number=self.number)

    def free(self, reading):
        return self.hand_in("free", reading)

    def spoil(self, reading):
        return self.hand_in("spoil", reading)

    def take(self, letter, reading):
        if self.is_over(reading):
            self.come_idle()
        # Of all letters that want an answer only the last one waits: its mark is the last.
        if letter.receiver != self.name or letter.mark != self.marks:
            return []
        if self.awaited == "find":
            return self.take_offer(letter, reading)
        if self.awaited in ("want", "renew"):
            self.take_answer(letter, reading)
        return []

    def is_over(self, reading):
        return self.phase == HOLDING and reading >= self.end

    def is_holding(self, reading):
        return self.state(reading) == HOLDING

    def come_idle(self):
        self.phase = IDLE
        self.awaited = ""
        self.sent_at = None
        self.number = None
        self.span = 0
        self.turn = 0
        self.keeper = ""
        self.end = None

    def ask(self, kind, receiver, reading, *, number=None, who=""):
        """Sends a letter that waits for its answer."""
        self.marks += 1
        self.awaited = kind
        self.sent_at = reading
        return [Letter(kind, self.name, receiver, mark=self.marks, number=number, who=who)]

    def hand_in(self, word, reading):
        """Is idle, and tells its keeper so by a letter of this kind."""
        if not self.is_holding(reading):
            raise NoDeed(word)
        letter = Letter(word, self.name, self.keeper, number=self.number, turn=self.turn, who=self.keeper)
        self.come_idle()
        return [letter]

    def take_offer(self, letter, reading):
        if letter.kind != "offer" or letter.number is None:
            return []
        self.phase = WANTING
        return self.ask("want", "", reading, number=letter.number, who=letter.sender)

    def take_answer(self, letter, reading):
        """Takes the answer to a want or a renew."""
        if letter.kind == "deny":
            self.come_idle()
        elif letter.kind == "grant" and letter.number is not None and letter.span > 0:
            self.take_grant(letter, reading)

    def take_grant(self, letter, reading):
        # Reckoned from when it was asked for: the keeper lent it later, so the asker lets go of it first.
        end = self.sent_at + letter.span
        if self.awaited == "renew" and letter.number == self.number:
            end = max(end, self.end)
        self.come_idle()
        if end <= reading:
            return
        self.phase = HOLDING
        self.number = letter.number
        self.span = letter.span
        self.turn = letter.turn
        self.keeper = letter.sender
        self.end = end
