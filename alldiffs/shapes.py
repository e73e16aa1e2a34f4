"""What values of any kind look like; the other files build upon these."""

DIGITS = "0123456789"


def is_whole(value):
    """Whether this is an INTEGER."""
    return isinstance(value, int) and not isinstance(value, bool)


def is_within(value, low, high):
    """Whether this is an INTEGER from low to high."""
    return is_whole(value) and low <= value <= high


def is_list(value):
    """Whether this is accepted where the document says list."""
    return isinstance(value, (list, tuple))


def is_tuple(value, many):
    """Whether this is a tuple of so many items."""
    return isinstance(value, tuple) and len(value) == many


def is_spot(value):
    """Whether this is a tuple of two INTEGERS."""
    return is_tuple(value, 2) and is_whole(value[0]) and is_whole(value[1])


def is_numeral(word):
    """Whether a string is a number from 0 on, in decimal digits without leading zeros."""
    if word == "" or not all([sign in DIGITS for sign in word]):
        return False
    return word == "0" or word[0] != "0"
