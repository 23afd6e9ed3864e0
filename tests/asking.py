"""What the tests of askers share: askers in each state, and the letters that they are handed."""

from leasepair.askers import Asker
from leasepair.letters import Letter

# An asker's states by name, and besides "over", holding till right now, "renewing", holding with a renew that
# waits, and "late", holding till right now with a renew that waits.
STATES = ("idle", "asked", "wanting", "holding", "renewing", "over", "late")
HOLD = ("holding", "renewing")
NOW = 100
NUMBER = 7
SPAN = 40
TURN = 3
END = 110


def offer(mark, number=NUMBER, sender="one", receiver="c", **named):
    return Letter("offer", sender, receiver, mark=mark, number=number, **named)


def grant(mark, number=NUMBER, span=SPAN, turn=TURN, sender="one", receiver="c", **named):
    return Letter("grant", sender, receiver, mark=mark, number=number, span=span, turn=turn, **named)


def deny(mark, number=NUMBER, sender="one", receiver="c", **named):
    return Letter("deny", sender, receiver, mark=mark, number=number, **named)


def find(mark, sender="c"):
    return Letter("find", sender, mark=mark)


def want(mark, number=NUMBER, who="one", sender="c"):
    return Letter("want", sender, mark=mark, number=number, who=who)


def renew(mark, receiver="one", number=NUMBER, sender="c"):
    return Letter("renew", sender, receiver, mark=mark, number=number)


def gave_in(kind, number=NUMBER, turn=TURN, keeper="one", sender="c"):
    return Letter(kind, sender, keeper, number=number, turn=turn, who=keeper)


def holding(asked_at, span=SPAN, number=NUMBER, turn=TURN, keeper="one", name="c"):
    """An asker that asked at this reading and was lent the number at once; its next mark is 3."""
    asker = Asker(name)
    asker.seek(asked_at)
    asker.take(offer(1, number, keeper, name), asked_at)
    asker.take(grant(2, number, span, turn, keeper, name), asked_at)
    return asker


def asker_in(state):
    """An asker in a state as it is at NOW; where it holds, to END, where it did, to NOW."""
    asker = Asker("c")
    if state == "idle":
        return asker
    if state in ("holding", "renewing"):
        asker = holding(END - SPAN)
    elif state in ("over", "late"):
        asker = holding(NOW - SPAN)
    else:
        asker.seek(90)
        if state == "wanting":
            asker.take(offer(1), 91)
    if state == "renewing":
        asker.renew(95)
    elif state == "late":
        asker.renew(NOW - 1)
    return asker


def mark_of(state):
    """The mark of the last letter of such an asker that wants an answer."""
    return {"idle": 0, "asked": 1, "wanting": 2, "holding": 2, "renewing": 3, "over": 2, "late": 3}[state]


def shown(asker, reading):
    return asker.state(reading), asker.held(reading), asker.held_to(reading), asker.due(reading)


def shown_in(state):
    """What an asker in that state tells at NOW."""
    if state in HOLD:
        return "holding", NUMBER, END, "renew"
    return "idle" if state in ("over", "late") else state, None, None, "none"
