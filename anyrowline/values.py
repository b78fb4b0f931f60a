"""What counts as an integer and as a sequence, told in one place for all modules."""


def is_integer(value):
    """Whether value is an integer; True and False are none."""
    return isinstance(value, int) and not isinstance(value, bool)


def is_within(value, low, high):
    """Whether value is an integer from low to high."""
    return is_integer(value) and low <= value <= high


def is_sequence(value):
    """Whether value is a sequence; a string is none."""
    return isinstance(value, (list, tuple))


def has_length(value, low, high):
    """Whether value is a sequence whose length is from low to high."""
    return is_sequence(value) and low <= len(value) <= high


def are_within(value, low, high):
    """Whether value is a sequence of integers from low to high."""
    return is_sequence(value) and all([is_within(number, low, high) for number in value])


def is_ascending(value, many):
    """Whether value is an ascending sequence of numbers below many."""
    if not is_sequence(value):
        return False
    least = 0
    for number in value:
        if not is_within(number, least, many - 1):
            return False
        least = number + 1
    return True
