"""Plain readings of the document's points 5 to 8, written apart from the program and without regard to speed."""

import itertools
import math


def go_along(instructions, code, entry=0, left=0):
    """Go along the code byte by byte; `left` is the countdown at the entry.

    Returns the countdowns at all offsets from the entry to the length of the code, the offsets at which instructions
    begin, the instructions that are read to their end, and the ending.
    """
    table = {opcode: (name, length) for opcode, name, length, is_padding in instructions}
    countdowns = {}
    begun = []
    read = []
    name = None
    operands = []
    stopped = None
    for offset in range(entry, len(code)):
        countdowns[offset] = left if stopped is None else None
        if stopped is not None:
            continue
        if left > 0:
            operands.append(code[offset])
            left -= 1
        elif code[offset] in table:
            name, length = table[code[offset]]
            begun.append(offset)
            operands = []
            left = length - 1
        else:
            stopped = offset
            continue
        if left == 0 and begun:
            read.append((begun[-1], name, tuple(operands)))
    countdowns[len(code)] = left if stopped is None else None
    if stopped is not None:
        ending = ("stopped", stopped)
    elif left > 0 and begun:
        ending = ("cut", begun[-1], left)
    else:
        ending = ("complete",)
    return countdowns, tuple(begun), tuple(read), ending


def plain_map(instructions, code):
    """The map of a code, one countdown after the other."""
    rows = []
    for countdown in range(max(item[2] for item in instructions)):
        countdowns, begun, read, ending = go_along(instructions, code, 0, countdown)
        rows.append((countdowns[len(code)], len(begun)))
    return tuple(rows)


def is_padded(instructions, code, entry):
    """Whether the decoder from the entry reads padding alone and is complete."""
    if entry > len(code):
        return False
    padding = [item[1] for item in instructions if item[3]]
    countdowns, begun, read, ending = go_along(instructions, code, entry)
    return ending == ("complete",) and all(name in padding for offset, name, operands in read)


def padding_sums(instructions, most):
    """Whether each integer up to `most` is a sum of padding lengths, found by plain adding."""
    lengths = {item[2] for item in instructions if item[3]}
    sums = [True] + [False] * most
    for total in range(1, most + 1):
        sums[total] = any(length <= total and sums[total - length] for length in lengths)
    return sums


def plain_conflict(instructions, countdowns):
    """The least pair that is not congruent modulo the common divisor of the padding lengths."""
    divisor = math.gcd(*[item[2] for item in instructions if item[3]])
    for first, second in itertools.combinations(countdowns, 2):
        if (first != second) if divisor == 0 else (first % divisor != second % divisor):
            return first, second
    return None


def plain_lengths(instructions, countdowns, most):
    """The lengths of fillers up to `most`, if each decoder has a way of its own to the end."""
    sums = padding_sums(instructions, most)
    return tuple(
        length for length in range(most + 1)
        if all(length >= countdown and sums[length - countdown] for countdown in countdowns)
    )


def next_countdowns(instructions, countdowns, byte):
    """The countdowns behind a byte of a filler, or None if some decoder begins no padding instruction with it."""
    behind = {countdown - 1 for countdown in countdowns if countdown > 0}
    if 0 in countdowns:
        lengths = [item[2] for item in instructions if item[0] == byte and item[3]]
        if not lengths:
            return None
        behind.add(lengths[0] - 1)
    return frozenset(behind)


def searched_filler(byte_count, instructions, countdowns, length):
    """The least filler of this length, by a search over all sets of countdowns, or None.

    It does not rely on sums of lengths: which sets can be completed with so many bytes is found step by step.
    """
    longest = max(item[2] for item in instructions)
    every = [frozenset(subset) for many in range(longest + 1) for subset in itertools.combinations(range(longest), many)]
    ways = {
        state: [next_countdowns(instructions, state, byte) for byte in range(byte_count)]
        for state in every
    }
    # With no bytes left, each decoder must be at the end of an instruction.
    possible = [{frozenset(), frozenset({0})}]
    for left in range(length):
        possible.append({state for state in every if any(way in possible[-1] for way in ways[state])})
    state = frozenset(countdowns)
    if state not in possible[length]:
        return None
    code = []
    for left in range(length - 1, -1, -1):
        byte = next(byte for byte in range(byte_count) if ways[state][byte] in possible[left])
        code.append(byte)
        state = ways[state][byte]
    return tuple(code)
