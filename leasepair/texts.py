"""Events, runs and letters as texts, and the texts of events and runs read."""

from leasepair.checks import are_figures
from leasepair.errors import NoText
from leasepair.events import is_event

MOST_FIGURES = 12
NOTHING = "-"
BOTH = "*"


def event_text(event):
    return " ".join([str(part) for part in event])


def run_text(events):
    return listed_text([event_text(event) for event in events])


def letter_text(letter):
    parts = [letter.kind, letter.sender, BOTH if letter.receiver == "" else letter.receiver]
    if letter.number is not None:
        parts.append(str(letter.number))
    if letter.mark != 0:
        parts.append(f"#{letter.mark}")
    return " ".join(parts)


def event_read(text):
    """The event whose text this is."""
    event = tuple([part_read(part) for part in text.split(" ")])
    if not is_event(event):
        raise NoText("an event is not written so")
    return event


def run_read(text):
    """The events of the run whose text this is."""
    if text == NOTHING:
        return []
    return [event_read(part) for part in text.split("; ")]


def listed_text(texts):
    """The texts of several events, or letters, perhaps of none."""
    return NOTHING if texts == [] else "; ".join(texts)


def part_read(text):
    """A whole number where the text is one's, else the text itself."""
    return int(text) if is_whole_text(text) else text


def is_whole_text(text):
    """Whether it is how a whole number of at most twelve figures is written."""
    figures = text[1:] if text.startswith("-") else text
    # Each number is written in one way only: with no nought ahead, and 0 with no sign.
    return are_figures(figures, MOST_FIGURES) and str(int(text)) == text
