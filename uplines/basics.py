"""What single values are: integers, counts, names and lists."""

SIGNS = "abcdefghijklmnopqrstuvwxyz0123456789"
LONGEST_NAME = 6


def is_integer(value):
    """Whether any value is an int that is not a bool."""
    return isinstance(value, int) and not isinstance(value, bool)


def is_count(value):
    """Whether any value is an integer that is at least 0."""
    return is_integer(value) and value >= 0


def is_name(value):
    """Whether any value is a string of one to six small letters and digits."""
    if not isinstance(value, str) or not 1 <= len(value) <= LONGEST_NAME:
        return False
    return all([sign in SIGNS for sign in value])


def is_list(value):
    """Whether any value may be passed where a list is asked for."""
    return isinstance(value, (list, tuple))
