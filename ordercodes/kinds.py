"""Questions about the kind of a value, for all modules of the package."""


def is_number(value):
    """Return whether value is an integer."""
    # Python counts True and False among the integers, the package does not.
    return isinstance(value, int) and not isinstance(value, bool)


def is_whole(value, low, high):
    """Return whether value is an integer from low to high."""
    return is_number(value) and low <= value <= high


def are_whole(value, low, high):
    """Return whether value is a tuple of integers from low to high."""
    if not isinstance(value, tuple):
        return False
    return all([is_whole(item, low, high) for item in value])
