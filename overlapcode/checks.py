"""Checks of values that may be anything. Other modules share them."""


def is_integer(value):
    """Return whether this is an integer."""
    # For Python a boolean is an integer, for this package it is not.
    return isinstance(value, int) and not isinstance(value, bool)


def is_integer_between(value, least, most):
    """Return whether this is an integer from `least` to `most`."""
    return is_integer(value) and least <= value <= most


def is_ascending(numbers):
    """Return whether these integers are in ascending order without duplicates."""
    return all([low < high for low, high in zip(numbers, numbers[1:])])
