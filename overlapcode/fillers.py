"""Fillers: codes of padding behind which decoders with different countdowns are synchronized."""

from overlapcode.checks import is_ascending, is_integer_between
from overlapcode.decoding import walk
from overlapcode.errors import InvalidCountdowns
from overlapcode.instructions import is_code
from overlapcode.lengths import common_divisor, is_reached, least_sums


def all_countdowns(instruction_set):
    """Return all countdowns that a decoder can have."""
    return tuple(range(instruction_set.longest()))


def conflict(instruction_set, countdowns):
    """Return the least pair of countdowns for which there is no filler, or None."""
    check_countdowns(instruction_set, countdowns)
    divisor = common_divisor(instruction_set.padding_lengths())
    # If all are congruent to the first one, all are congruent, so the least pair begins with it.
    for other in countdowns[1:]:
        if not are_congruent(countdowns[0], other, divisor):
            return countdowns[0], other
    return None


def filler_length(instruction_set, countdowns):
    """Return the length of the shortest filler, or None."""
    if conflict(instruction_set, countdowns) is not None:
        return None
    least = least_sums(instruction_set.padding_lengths())
    length = 0
    # From some integer on all multiples of the common divisor are sums, so without a conflict the search ends.
    while not has_filler(least, countdowns, length):
        length += 1
    return length


def filler_lengths(instruction_set, countdowns, most):
    """Return all lengths of fillers up to `most`."""
    check_countdowns(instruction_set, countdowns)
    least = least_sums(instruction_set.padding_lengths())
    return tuple([length for length in range(most + 1) if has_filler(least, countdowns, length)])


def filler(instruction_set, countdowns, length=None):
    """Return the least filler of this length, or of the shortest one, or None."""
    check_countdowns(instruction_set, countdowns)
    size = filler_length(instruction_set, countdowns) if length is None else length
    least = least_sums(instruction_set.padding_lengths())
    if size is None or not has_filler(least, countdowns, size):
        return None
    return least_filler(padding_instructions(instruction_set), least, countdowns, size)


def is_filler(instruction_set, countdowns, value):
    """Return whether the value is a filler for the countdowns."""
    check_countdowns(instruction_set, countdowns)
    if not is_code(instruction_set, value):
        return False
    return all([is_padded_from(instruction_set, value, countdown) for countdown in countdowns])


def check_countdowns(instruction_set, countdowns):
    """Raise an error if this is not a valid tuple of countdowns."""
    if not are_countdowns(instruction_set, countdowns):
        raise InvalidCountdowns(countdowns)


def are_countdowns(instruction_set, value):
    """Return whether this is a valid tuple of countdowns."""
    if not isinstance(value, tuple):
        return False
    greatest = instruction_set.longest() - 1
    return all([is_integer_between(item, 0, greatest) for item in value]) and is_ascending(value)


def are_congruent(first, second, divisor):
    """Return whether the integers are congruent modulo the divisor, which may be 0."""
    if divisor == 0:
        return first == second
    return (second - first) % divisor == 0


def has_filler(least, countdowns, length):
    """Return whether there is a filler of this length, for padding lengths with these least sums.

    Decoders read their opcodes at different offsets or go on together, and operand bytes are ignored. So no decoder
    hinders another one, and it is enough that each can come to the end by itself.
    """
    return all([is_reached(least, length - countdown) for countdown in countdowns])


def least_filler(padding, least, countdowns, length):
    """Return the least filler of this length, which must be the length of one."""
    code = [0] * length
    begins = [False] * (length + 1)
    for countdown in countdowns:
        begins[countdown] = True
    # As decoders do not hinder each other, the least byte that fits at each offset makes the least code.
    for offset in range(length):
        if begins[offset]:
            opcode, size = first_fitting(padding, least, length - offset)
            code[offset] = opcode
            begins[offset + size] = True
    return tuple(code)


def padding_instructions(instruction_set):
    """Return (opcode, length) for each padding instruction, in ascending order."""
    return [(opcode, length) for opcode, name, length, is_padding in instruction_set.instructions if is_padding]


def first_fitting(padding, least, left):
    """Return the first padding instruction behind which the rest of these bytes can be padded, too."""
    at = 0
    # The number of bytes is a sum of padding lengths above 0, so one of them fits.
    while not is_reached(least, left - padding[at][1]):
        at += 1
    return padding[at]


def is_padded_from(instruction_set, code, entry):
    """Return whether the decoder from the entry reads padding alone and is complete."""
    length_of_padding = dict(padding_instructions(instruction_set))
    begun, following = walk(instruction_set, code, entry)
    return following == len(code) and all([code[offset] in length_of_padding for offset in begun])
