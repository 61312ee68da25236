"""Questions about the kind of a value, for all modules of the package."""


def is_whole(value, low, high):
    """Return whether value is an integer from low to high."""
    # Python counts True and False among the integers, the package does not.
    if isinstance(value, bool) or not isinstance(value, int):
        return False
    return low <= value <= high


def are_whole(value, low, high):
    """Return whether value is a tuple of integers from low to high."""
    if not isinstance(value, tuple):
        return False
    return all([is_whole(item, low, high) for item in value])
