"""Names, integers and mode sets: the words of which all other forms are made."""

LONGEST_NAME = 8


def is_name(value):
    """Whether the value is a name: one to eight letters a to z."""
    if not isinstance(value, str) or not 1 <= len(value) <= LONGEST_NAME:
        return False
    return all(["a" <= letter <= "z" for letter in value])


def is_between(value, low, high):
    """Whether the value is an integer from low to high; True and False are none."""
    return isinstance(value, int) and not isinstance(value, bool) and low <= value <= high


def is_count(value):
    """Whether the value is an integer from 0 on."""
    return isinstance(value, int) and not isinstance(value, bool) and value >= 0


def is_below(value, many):
    """Whether the value is an integer from 0 to many, less one."""
    return is_between(value, 0, many - 1)


def is_tuple(value, many):
    """Whether the value is a tuple of so many entries."""
    return isinstance(value, tuple) and len(value) == many


def is_ascending(values):
    """Whether the values, which can be compared, are strictly ascending."""
    return all([values[at] < values[at + 1] for at in range(len(values) - 1)])


def is_mode_set(value, modes):
    """Whether the value is an ascending tuple of at least one of so many modes."""
    if not isinstance(value, tuple) or len(value) == 0:
        return False
    return all([is_below(mode, modes) for mode in value]) and is_ascending(value)
