"""What a keeper keeps of a single number."""


class Entry:
    """Of one number what the keeper knows; end, far, seen and since are None where they aren't told."""

    def __init__(self, title):
        self.begin(title, 0)

    def begin(self, title, count):
        """As at first, but for the title and the count."""
        self.title = title
        self.count = count
        self.who = ""
        self.end = None
        self.turn = 0
        self.far = None
        self.seen = None
        self.since = None

    def parts(self):
        return self.title, self.count, self.who, self.end, self.turn, self.far, self.seen, self.since

    def is_rested(self, reading):
        return self.since is None or reading >= self.since

    def is_free_for(self, asker, reading, grace):
        if not self.title or not self.is_rested(reading):
            return False
        if self.who in ("", asker) or self.end is None:
            return True
        return reading >= self.end + grace

    def lend_to(self, asker, end, turn):
        """Lends it to this end; what is lent to the asker already doesn't end sooner."""
        self.end = greater(self.end, end) if self.who == asker else end
        self.who = asker
        self.turn = turn

    def is_lent_to(self, asker, turn):
        """Whether the keeper's own last grant, of this turn, still stands."""
        return self.title and self.who == asker and self.turn == turn and turn > 0

    def end_lease(self):
        self.who = ""
        self.end = None

    def rest_to(self, reading):
        self.since = greater(self.since, reading)

    def take_over(self, reading, wait):
        """The title passes to this keeper without the other's word."""
        self.title = True
        # Two more: a give of the other that is under way bears one more.
        self.count += 2
        self.end = None
        self.turn = 0
        self.seen = None
        self.since = greater(reading, self.far) + wait

    def latest_end(self):
        """The greatest end to which either keeper is known to have lent it, or None."""
        return greater(self.end, self.far)

    def hear_end(self, who, end):
        """The other keeper says that it lent it so; it may have said so of a later end already."""
        if self.far is None or end >= self.far:
            self.who = who
            self.far = end

    def hear_seen(self, end):
        self.seen = greater(self.seen, end)


def greater(one, other):
    """The greater of two of which each may be None; None is less than all."""
    if one is None:
        return other
    return one if other is None else max(one, other)
