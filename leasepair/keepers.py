"""Keepers, which lend numbers to askers and stand in for one another."""

from leasepair.entries import Entry
from leasepair.errors import NoDeed, NoNumber
from leasepair.letters import Letter

ONE = "one"
TWO = "two"
KEEPERS = ("one", "two")
PAIRED = "paired"
ALONE = "alone"
BACK = "back"


class Keeper:
    """One of the two keepers, by its name, with an entry for each number of its links' pools."""

    def __init__(self, name, *, links, settings):
        self.name = name
        self.other = TWO if name == ONE else ONE
        # Each by itself: whatever is done to the settings behind the call changes nothing here.
        self.lease = settings.lease
        self.lead = settings.lead
        self.grace = settings.grace
        self.wait = settings.wait
        self.rest = settings.rest
        self.phase = PAIRED
        self.turns = 0
        self.starts = 0
        self.numbers = {link: pool_numbers(pool) for link, pool in links}
        self.entries = first_entries(name, links)

    def state(self):
        return self.phase

    def entry(self, number):
        return self.kept(number).parts()

    def is_free(self, number, reading, *, who=""):
        return self.kept(number).is_free_for(who, reading, self.grace)

    def take(self, letter, reading):
        if letter.sender == self.other and letter.receiver == self.name:
            return self.take_from_keeper(letter)
        if letter.sender in KEEPERS or letter.receiver not in ("", self.name) or self.phase == BACK:
            return []
        if letter.link not in self.numbers:
            return []
        return self.take_from_asker(letter, reading)

    def give(self, number, reading):
        entry = self.kept(number)
        if self.phase != PAIRED or not entry.is_free_for("", reading, self.grace):
            raise NoDeed("give")
        entry.begin(False, entry.count + 1)
        return [self.give_letter(number, entry)]

    def alone(self, reading):
        if self.phase != PAIRED:
            raise NoDeed("alone")
        for number, entry in self.rising():
            if not entry.title:
                entry.take_over(reading, self.wait)
        self.phase = ALONE
        return []

    def start(self):
        if self.phase == ALONE:
            return []
        self.phase = BACK
        self.starts += 1
        return [self.back_letter()]

    def again(self):
        if self.phase == BACK:
            return [self.back_letter()]
        return self.said_again() if self.phase == PAIRED else []

    def kept(self, number):
        if number not in self.entries:
            raise NoNumber(number)
        return self.entries[number]

    def rising(self):
        """Each number and its entry."""
        return [(number, self.entries[number]) for number in sorted(self.entries)]

    def take_from_asker(self, letter, reading):
        """A letter of a link that the keeper has."""
        numbers = self.numbers[letter.link]
        if letter.kind == "find":
            return self.take_find(letter, numbers, reading)
        if letter.number not in numbers:
            return []
        entry = self.entries[letter.number]
        if letter.kind == "want":
            return self.take_want(letter, entry, reading)
        if letter.kind == "renew":
            return self.take_renew(letter, entry, reading)
        if letter.kind in ("free", "spoil"):
            self.take_in(letter, entry, reading)
        return []

    def take_find(self, letter, numbers, reading):
        asker = letter.sender
        fit = [number for number in numbers if self.is_free(number, reading, who=asker)]
        own = [number for number in fit if self.entries[number].who == asker]
        return [self.answer("offer", letter, number) for number in (own + fit)[:1]]

    def take_want(self, letter, entry, reading):
        if letter.who != self.name:
            return []
        if entry.is_free_for(letter.sender, reading, self.grace):
            return self.lend(letter, entry, reading)
        return [self.answer("deny", letter, letter.number)]

    def take_renew(self, letter, entry, reading):
        if not entry.title:
            return []
        if entry.who == letter.sender:
            return self.lend(letter, entry, reading)
        # Ahead of since the asker may still hold it by the other keeper's word, so it isn't denied.
        return [self.answer("deny", letter, letter.number)] if entry.is_rested(reading) else []

    def take_in(self, letter, entry, reading):
        """Takes in a number that is freed or spoilt."""
        if letter.who != self.name or not entry.is_lent_to(letter.sender, letter.turn):
            return
        entry.end_lease()
        if letter.kind == "spoil":
            entry.rest_to(reading + self.rest)

    def lend(self, letter, entry, reading):
        self.turns += 1
        entry.lend_to(letter.sender, self.new_end(entry, reading), self.turns)
        grant = self.answer("grant", letter, letter.number, span=entry.end - reading, turn=entry.turn)
        return [grant, self.told_letter(letter.number, entry)] if self.phase == PAIRED else [grant]

    def new_end(self, entry, reading):
        end = reading + self.lease
        if self.phase != PAIRED:
            return end
        # The other keeper, were it alone, waits no longer than by the ends that it knows.
        known = reading if entry.seen is None else max(reading, entry.seen)
        return min(end, known + self.lead)

    def answer(self, kind, letter, number, *, span=0, turn=0):
        return Letter(
            kind, self.name, letter.sender,
            mark=letter.mark, number=number, span=span, turn=turn, link=letter.link, via=letter.via,
        )

    def take_from_keeper(self, letter):
        """A letter of the other keeper to this one by its name."""
        if letter.kind == "back":
            return self.take_back(letter)
        if letter.kind == "books":
            self.take_books(letter)
            return []
        if self.phase != PAIRED or letter.number not in self.entries:
            return []
        entry = self.entries[letter.number]
        if letter.kind == "told":
            return self.take_told(letter, entry)
        if letter.kind == "seen":
            take_seen(letter, entry)
        if letter.kind == "give" and not entry.title and letter.count > entry.count:
            entry.begin(True, letter.count)
        return []

    def take_told(self, letter, entry):
        if entry.title or letter.end is None or letter.count != entry.count:
            return []
        entry.hear_end(letter.who, letter.end)
        return [Letter("seen", self.name, self.other, number=letter.number, count=letter.count, end=letter.end)]

    def take_back(self, letter):
        rows = [
            (number, entry.count, entry.title, entry.who, entry.latest_end())
            for number, entry in self.rising()
        ]
        if self.phase == ALONE:
            self.phase = PAIRED
        return [Letter("books", self.name, self.other, mark=letter.mark, rows=tuple(rows))]

    def take_books(self, letter):
        if self.phase != BACK or letter.mark != self.starts:
            return
        for number, count, title, who, end in letter.rows:
            if number in self.entries:
                take_row(self.entries[number], count, title, who, end)
        self.phase = PAIRED

    def said_again(self):
        """What the other keeper may not have heard of."""
        letters = []
        for number, entry in self.rising():
            if entry.title and entry.end is not None and (entry.seen is None or entry.seen < entry.end):
                letters.append(self.told_letter(number, entry))
            if not entry.title and entry.count > 0:
                letters.append(self.give_letter(number, entry))
        return letters

    def told_letter(self, number, entry):
        return Letter("told", self.name, self.other, number=number, count=entry.count, who=entry.who, end=entry.end)

    def give_letter(self, number, entry):
        return Letter("give", self.name, self.other, number=number, count=entry.count)

    def back_letter(self):
        return Letter("back", self.name, self.other, mark=self.starts)


def pool_numbers(pool):
    """The pool's numbers, rising."""
    return [pool.number_at(place) for place in range(len(pool))]


def first_entries(name, links):
    """The entries of the keeper of this name at first, by their numbers."""
    entries = {}
    for link, pool in links:
        first, second = pool.dealt(one=1, other=1)
        titles = first if name == ONE else second
        for number in pool_numbers(pool):
            entries[number] = Entry(titles.has(number))
    return entries


def take_seen(letter, entry):
    if entry.title and letter.end is not None and letter.count == entry.count:
        entry.hear_seen(letter.end)


def take_row(entry, count, title, who, end):
    """Takes a row of the other keeper's books."""
    if count > entry.count:
        entry.begin(not title, count)
    if title and end is not None and count == entry.count:
        entry.hear_end(who, end)
