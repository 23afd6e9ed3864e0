"""The desk, which keeps worlds by names and answers texts by texts."""

from leasepair.checks import is_name
from leasepair.errors import NoRow, NoText, TooMany
from leasepair.papers import SAFE, paper
from leasepair.pools import Pool
from leasepair.settings import NAMES, settings_of
from leasepair.texts import event_read, is_whole_text, letter_text, listed_text, run_read
from leasepair.worlds import World, named


class Desk:
    """Worlds by their names, at most so many."""

    def __init__(self, most=4):
        self.most = most
        self.worlds = {}

    def say(self, row):
        """The answer to a row, all of which is read before any of it is done."""
        if not isinstance(row, str):
            raise NoRow("a row is a text")
        word, *words = row.split(" ")
        if word == "paper":
            return paper_answer(settings_read(words))
        name = name_read(words)
        further = words[1:]
        if word == "world":
            return self.make(name, settings_read(further))
        if word == "do":
            return self.done(name, written_event(further))
        if word == "run":
            return self.ran(name, written_run(further))
        if further == []:
            return self.answer_about(word, name)
        raise NoRow("there is no such row")

    def answer_about(self, word, name):
        """The answer to a row of a word and a name alone."""
        if word not in ("holds", "both", "gone"):
            raise NoRow("there is no such row")
        world = named(self.worlds, name)
        if word == "holds":
            return holds_answer(world)
        if word == "both":
            return "yes" if world.ever_both() else "no"
        del self.worlds[name]
        return "ok"

    def make(self, name, settings):
        if name not in self.worlds and len(self.worlds) >= self.most:
            raise TooMany(self.most)
        self.worlds[name] = desk_world(settings)
        return "ok"

    def done(self, name, event):
        world = named(self.worlds, name)
        world.do(event)
        return listed_text([letter_text(letter) for letter in world.letters()])

    def ran(self, name, events):
        world = named(self.worlds, name)
        world.run(events)
        return str(world.tried())

    def __len__(self):
        return len(self.worlds)


def desk_world(settings):
    return World(
        settings, links=(("l", Pool(((1, 6),))),), askers=(("c", "l"), ("d", "l"), ("e", "l")), relays=(("r", "l"),)
    )


def holds_answer(world):
    held = [f"{row[0]}:{row[1]}" for row in world.holds()]
    return "-" if held == [] else " ".join(held)


def paper_answer(settings):
    word, shown = paper(settings)
    return f"{word} {shown[0]} {shown[1]}" if word == SAFE else word


def name_read(words):
    """The name that stands first among a row's words."""
    if words == [] or not is_name(words[0]):
        raise NoRow("no name stands where one is due")
    return words[0]


def settings_read(words):
    if len(words) != len(NAMES) or not all([is_whole_text(word) for word in words]):
        raise NoRow("settings are six numbers")
    return settings_of([int(word) for word in words])


def written_event(words):
    try:
        return event_read(" ".join(words))
    except NoText:
        raise NoRow("no event stands where one is due") from None


def written_run(words):
    try:
        return run_read(" ".join(words))
    except NoText:
        raise NoRow("no run stands where one is due") from None
