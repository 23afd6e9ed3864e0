"""What a thing must be to be a whole number, a number of a pool, or a name."""

TOP_NUMBER = 999999
MOST_WHOLE = 999999999999
LONGEST_NAME = 8
NAME_SIGNS = "abcdefghijklmnopqrstuvwxyz"


def is_whole(thing):
    """Whether it is a whole number; to Python, truths are numbers too."""
    return isinstance(thing, int) and not isinstance(thing, bool)


def is_whole_within(thing, low, high):
    return is_whole(thing) and low <= thing <= high


def is_short_whole(thing):
    """Whether it is a whole number of at most twelve figures."""
    return is_whole_within(thing, -MOST_WHOLE, MOST_WHOLE)


def is_number(thing):
    """Whether it is a number that a pool may have."""
    return is_whole_within(thing, 0, TOP_NUMBER)


def is_name(thing):
    if not isinstance(thing, str) or not 1 <= len(thing) <= LONGEST_NAME:
        return False
    return all([sign in NAME_SIGNS for sign in thing])


def are_figures(text, most):
    """Whether the text is one to so many figures."""
    return 1 <= len(text) <= most and text.isascii() and text.isdigit()
