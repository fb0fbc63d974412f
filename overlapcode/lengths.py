"""Sums of lengths: which integers they reach, and with which parts."""

from overlapcode.checks import is_ascending, is_integer_between
from overlapcode.errors import InvalidLengths

MOST_LENGTHS = 50
GREATEST_LENGTH = 1000


def common_divisor(lengths):
    """Return the greatest common divisor, 0 for no lengths."""
    check_lengths(lengths)
    divisor = 0
    for length in lengths:
        divisor = divisor_of_two(divisor, length)
    return divisor


def is_sum(lengths, total):
    """Return whether the total is a sum of the lengths."""
    return is_reached(least_sums(lengths), total)


def least_sums(lengths):
    """Return the least sum, or None, for each remainder modulo the smallest length."""
    check_lengths(lengths)
    if len(lengths) == 0:
        return ()
    least = [0] + [None] * (lengths[0] - 1)
    for length in lengths[1:]:
        least = with_length(least, length)
    return tuple(least)


def conductor(lengths):
    """Return the least integer from which on all are sums, or None."""
    if common_divisor(lengths) != 1:
        return None
    least = least_sums(lengths)
    return max(least) - len(least) + 1


def gap_count(lengths):
    """Return the number of positive integers that are no sums, or None if there is no bound."""
    if common_divisor(lengths) != 1:
        return None
    least = least_sums(lengths)
    # With one remainder, the gaps are the integers below its least sum.
    return sum([reached // len(least) for reached in least])


def sum_parts(lengths, total):
    """Return pairs (length, count) that add up to the total, or None."""
    least = least_sums(lengths)
    if not is_reached(least, total):
        return None
    if total == 0:
        return ()
    reached = least[total % len(least)]
    counts = part_counts(lengths, least, reached)
    counts[lengths[0]] += (total - reached) // lengths[0]
    return tuple([(length, counts[length]) for length in lengths if counts[length] > 0])


def check_lengths(lengths):
    """Raise an error if this is not a valid tuple of lengths."""
    if not are_lengths(lengths):
        raise InvalidLengths(lengths)


def are_lengths(value):
    """Return whether this is a valid tuple of lengths."""
    if not isinstance(value, tuple) or len(value) > MOST_LENGTHS:
        return False
    return all([is_integer_between(item, 1, GREATEST_LENGTH) for item in value]) and is_ascending(value)


def divisor_of_two(first, second):
    """Return the greatest common divisor of two integers from 0."""
    while second > 0:
        first, second = second, first % second
    return first


def with_length(least, length):
    """Return what becomes of these least sums if one more length may be used.

    Adding the length again and again leads from each remainder through a cycle of remainders.
    """
    lowered = list(least)
    divisor = divisor_of_two(len(least), length)
    # The first round may come to the least sum of the cycle only at its end, the second one carries it round.
    steps = 2 * (len(least) // divisor)
    for first in range(divisor):
        remainder = first
        for step in range(steps):
            following = (remainder + length) % len(least)
            if lowered[remainder] is not None:
                reached = lowered[remainder] + length
                if lowered[following] is None or reached < lowered[following]:
                    lowered[following] = reached
            remainder = following
    return lowered


def is_reached(least, total):
    """Return whether the lengths with these least sums have the total as a sum."""
    if len(least) == 0:
        return total == 0
    reached = least[total % len(least)]
    return reached is not None and reached <= total


def part_counts(lengths, least, reached):
    """Return, for each length, how often it stands in this least sum."""
    counts = {length: 0 for length in lengths}
    # A least sum without one of its parts is the least sum of its own remainder, so the walk never gets stuck.
    while reached > 0:
        length = last_part(lengths, least, reached)
        counts[length] += 1
        reached -= length
    return counts


def last_part(lengths, least, reached):
    """Return a length that leads from another least sum to this one."""
    parts = [length for length in lengths if least[(reached - length) % len(least)] == reached - length]
    return parts[0]
