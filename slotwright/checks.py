"""What names and numbers must be, wherever they are handed in or read."""

from slotwright.errors import BadLine, BadName, BadNumber

LETTERS = "abcdefghijklmnopqrstuvwxyz"
FIGURES = "0123456789"
MOST_LETTERS = 8
MOST_FIGURES = 6


def is_made_of(text, signs, most):
    """Whether the text has from one to so many signs, all of them among the told ones."""
    return 1 <= len(text) <= most and all([sign in signs for sign in text])


def is_name(text):
    """Whether the text is a name."""
    return is_made_of(text, LETTERS, MOST_LETTERS)


def check_name(text):
    """Refuse a text that is no name."""
    if not is_name(text):
        raise BadName(f"not a name: {text}")


def is_number(thing):
    """Whether the thing is a whole number; True and False are none."""
    return isinstance(thing, int) and not isinstance(thing, bool)


def check_whole(thing):
    """Refuse what is no number, whatever its bounds."""
    if not is_number(thing):
        raise BadNumber("not a number")


def check_number(number, least, most):
    """Refuse what is no number, and a number outside the bounds."""
    check_whole(number)
    # The message leaves the number out: Python does not write numbers of many thousand figures.
    if not least <= number <= most:
        raise BadNumber("not a number within its bounds")


def read_number(text):
    """The number that is written there in one to six figures, without a nought ahead of others."""
    if not is_made_of(text, FIGURES, MOST_FIGURES):
        raise BadLine(f"not a number: {text}")
    if text[0] == "0" and len(text) > 1:
        raise BadLine(f"a nought ahead of figures: {text}")
    return int(text)
