"""What values of any kind look like; the other files build upon these."""


def is_whole(value):
    """Whether this is an INTEGER."""
    return isinstance(value, int) and not isinstance(value, bool)


def is_within(value, low, high):
    """Whether this is an INTEGER from low to high."""
    return is_whole(value) and low <= value <= high


def is_list(value):
    """Whether this is accepted where the document says list."""
    return isinstance(value, (list, tuple))


def is_tuple(value, many):
    """Whether this is a tuple of so many items."""
    return isinstance(value, tuple) and len(value) == many


def is_spot(value):
    """Whether this is a tuple of two INTEGERS."""
    return is_tuple(value, 2) and is_whole(value[0]) and is_whole(value[1])
