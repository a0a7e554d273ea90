"""The check of numbers that counts, heights and limits share."""

from chairstack.errors import InvalidNumber


def check_from_one(number, most=None):
    """Raise an error unless the number is at least 1 and, where a greatest number is given, not above it."""
    if number < 1 or (most is not None and number > most):
        raise InvalidNumber(number)
