"""Numbers and their digits, for all modules that number words or rows."""


def power(base, times):
    """Return the product of so many times the base."""
    number = 1
    for _ in range(times):
        number = number * base
    return number


def as_number(base, digits):
    """Return the number with these digits, the first one being the greatest."""
    number = 0
    for digit in digits:
        number = number * base + digit
    return number


def as_digits(base, number, many):
    """Return the last so many digits of the number."""
    digits = []
    for _ in range(many):
        digits.append(number % base)
        number = number // base
    return tuple(digits[::-1])
