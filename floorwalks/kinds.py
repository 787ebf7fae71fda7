"""What kind of value something is."""

LONGEST_NAME = 8


def is_whole(value):
    """Return whether a value is a whole number; a Boolean is none."""
    return isinstance(value, int) and not isinstance(value, bool)


def is_between(value, low, high):
    """Return whether a value is a whole number from low to high, both with them."""
    return is_whole(value) and low <= value <= high


def is_name(value):
    """Return whether a value is a string of 1 to 8 small letters."""
    if not isinstance(value, str) or not 1 <= len(value) <= LONGEST_NAME:
        return False
    return all(["a" <= sign <= "z" for sign in value])
