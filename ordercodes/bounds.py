"""The bounds within which all parts of the package work."""

MAX_DEEDS = 20
MAX_KEYS = 16
MAX_LONG = 16
MAX_SIGNS = 6
MAX_WEIGHT = 10 ** 12
