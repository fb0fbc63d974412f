"""Plain readings of the document's points 5 to 10, written apart from the program and without regard to speed."""

import itertools
import math


def go_along(instructions, code, entry=0, left=0):
    """Go along the code byte by byte; `left` is the countdown at the entry.

    Returns the countdowns at all offsets from the entry to the length of the code, the offsets at which instructions
    begin, the instructions that are read to their end, and the ending.
    """
    table = {opcode: (name, length) for opcode, name, length, is_padding in instructions}
    countdowns = {}
    begun = []
    read = []
    name = None
    operands = []
    stopped = None
    for offset in range(entry, len(code)):
        countdowns[offset] = left if stopped is None else None
        if stopped is not None:
            continue
        if left > 0:
            operands.append(code[offset])
            left -= 1
        elif code[offset] in table:
            name, length = table[code[offset]]
            begun.append(offset)
            operands = []
            left = length - 1
        else:
            stopped = offset
            continue
        if left == 0 and begun:
            read.append((begun[-1], name, tuple(operands)))
    countdowns[len(code)] = left if stopped is None else None
    if stopped is not None:
        ending = ("stopped", stopped)
    elif left > 0 and begun:
        ending = ("cut", begun[-1], left)
    else:
        ending = ("complete",)
    return countdowns, tuple(begun), tuple(read), ending


def plain_map(instructions, code):
    """The map of a code, one countdown after the other."""
    rows = []
    for countdown in range(max(item[2] for item in instructions)):
        countdowns, begun, read, ending = go_along(instructions, code, 0, countdown)
        rows.append((countdowns[len(code)], len(begun)))
    return tuple(rows)


def is_padded(instructions, code, entry):
    """Whether the decoder from the entry reads padding alone and is complete."""
    if entry > len(code):
        return False
    padding = [item[1] for item in instructions if item[3]]
    countdowns, begun, read, ending = go_along(instructions, code, entry)
    return ending == ("complete",) and all(name in padding for offset, name, operands in read)


def padding_sums(instructions, most):
    """Whether each integer up to `most` is a sum of padding lengths, found by plain adding."""
    lengths = {item[2] for item in instructions if item[3]}
    sums = [True] + [False] * most
    for total in range(1, most + 1):
        sums[total] = any(length <= total and sums[total - length] for length in lengths)
    return sums


def plain_conflict(instructions, countdowns):
    """The least pair that is not congruent modulo the common divisor of the padding lengths."""
    divisor = math.gcd(*[item[2] for item in instructions if item[3]])
    for first, second in itertools.combinations(countdowns, 2):
        if (first != second) if divisor == 0 else (first % divisor != second % divisor):
            return first, second
    return None


def plain_lengths(instructions, countdowns, most):
    """The lengths of fillers up to `most`, if each decoder has a way of its own to the end."""
    sums = padding_sums(instructions, most)
    return tuple(
        length for length in range(most + 1)
        if all(length >= countdown and sums[length - countdown] for countdown in countdowns)
    )


def next_countdowns(instructions, countdowns, byte):
    """The countdowns behind a byte of a filler, or None if some decoder begins no padding instruction with it."""
    behind = {countdown - 1 for countdown in countdowns if countdown > 0}
    if 0 in countdowns:
        lengths = [item[2] for item in instructions if item[0] == byte and item[3]]
        if not lengths:
            return None
        behind.add(lengths[0] - 1)
    return frozenset(behind)


def searched_filler(byte_count, instructions, countdowns, length):
    """The least filler of this length, by a search over all sets of countdowns, or None.

    It does not rely on sums of lengths: which sets can be completed with so many bytes is found step by step.
    """
    longest = max(item[2] for item in instructions)
    every = [frozenset(subset) for many in range(longest + 1) for subset in itertools.combinations(range(longest), many)]
    ways = {
        state: [next_countdowns(instructions, state, byte) for byte in range(byte_count)]
        for state in every
    }
    # With no bytes left, each decoder must be at the end of an instruction.
    possible = [{frozenset(), frozenset({0})}]
    for left in range(length):
        possible.append({state for state in every if any(way in possible[-1] for way in ways[state])})
    state = frozenset(countdowns)
    if state not in possible[length]:
        return None
    code = []
    for left in range(length - 1, -1, -1):
        byte = next(byte for byte in range(byte_count) if ways[state][byte] in possible[left])
        code.append(byte)
        state = ways[state][byte]
    return tuple(code)


def plain_is_program(byte_count, instructions, value):
    """Whether the value is a program."""
    lengths = {name: length for opcode, name, length, is_padding in instructions if not is_padding}
    if type(value) is not tuple or len(value) > 12:
        return False
    for step in value:
        if type(step) is not tuple or len(step) != 2 or type(step[0]) is not str or type(step[1]) is not tuple:
            return False
        if step[0] not in lengths or len(step[1]) != lengths[step[0]] - 1:
            return False
        for item in step[1]:
            if item is not None and not (type(item) is int and 0 <= item < byte_count):
                return False
    return True


def plain_executed(instructions, code, entry):
    """The steps that the decoder from the entry reads, or None."""
    padding = [item[1] for item in instructions if item[3]]
    countdowns, begun, read, ending = go_along(instructions, code, entry)
    if ending != ("complete",):
        return None
    return tuple((name, operands) for offset, name, operands in read if name not in padding)


def plain_runs(instructions, code, entry, program):
    """Whether the code runs the program from the entry."""
    steps = plain_executed(instructions, code, entry)
    if steps is None or [name for name, operands in steps] != [name for name, operands in program]:
        return False
    return all(
        wanted is None or wanted == byte
        for step, other in zip(steps, program) for byte, wanted in zip(step[1], other[1])
    )


def plain_is_overlay(instructions, programs, entries, code):
    """Whether the code, which must be one, is an overlay."""
    if len(code) < entries[-1]:
        return False
    return all(plain_runs(instructions, code, entry, program) for entry, program in zip(entries, programs))


def plain_state_count(instructions, programs, entries):
    """The state count, term by term."""
    longest = max((item[2] for item in instructions if item[3]), default=None)
    product = entries[-1] + 1
    for program in programs:
        term = 1
        for name, operands in program:
            term += 1 + len(operands)
        if longest is not None:
            term += (len(program) + 1) * (longest - 1)
        product *= term
    return product


def plain_entries(value, many):
    """Whether the value is a tuple of entries for so many programs."""
    if type(value) is not tuple or len(value) != many or not all(type(item) is int for item in value):
        return False
    return list(value) == sorted(set(value)) and value[0] == 0 and value[-1] <= 12


def all_codes(byte_count, most):
    """All codes of up to so many bytes, in the order of their lengths and then of their bytes."""
    for size in range(most + 1):
        yield from itertools.product(range(byte_count), repeat=size)


def plain_decoder(instructions, program, code, entry):
    """(done, is_padding, left) of the decoder from the entry behind the code, or None if it has failed."""
    padding = {item[1]: item[3] for item in instructions}
    countdowns, begun, read, ending = go_along(instructions, code, entry)
    if ending[0] == "stopped":
        return None
    steps = [(name, operands) for offset, name, operands in read if not padding[name]]
    left = countdowns[len(code)]
    is_padding = False
    done = len(steps)
    if left > 0:
        name = next(item[1] for item in instructions if item[0] == code[begun[-1]])
        is_padding = padding[name]
        if not is_padding:
            steps.append((name, code[begun[-1] + 1:]))
    if len(steps) > len(program):
        return None
    for (name, operands), (wanted, pattern) in zip(steps, program):
        if name != wanted or any(item not in (None, byte) for byte, item in zip(operands, pattern)):
            return None
    return done, is_padding, left


def plain_state(instructions, programs, entries, code):
    """The state to which the code leads, computed from the whole code, or None."""
    decoders = []
    for program, entry in zip(programs, entries):
        if len(code) < entry:
            decoders.append(None)
            continue
        decoder = plain_decoder(instructions, program, code, entry)
        if decoder is None:
            return None
        decoders.append(decoder)
    return min(len(code), entries[-1]), tuple(decoders)


def plain_search(byte_count, instructions, programs, entries):
    """All states with their least shortest codes in the order of those, and the states that bytes lead to from each."""
    codes = {plain_state(instructions, programs, entries, ()): ()}
    behind = {}
    waiting = list(codes)
    while waiting:
        further = []
        for state in waiting:
            behind[state] = []
            for byte in range(byte_count):
                code = (*codes[state], byte)
                reached = plain_state(instructions, programs, entries, code)
                behind[state].append(reached)
                if reached is not None and reached not in codes:
                    codes[reached] = code
                    further.append(reached)
        waiting = further
    return codes, behind


def plain_distances(programs, entries, behind):
    """The distance of each state, by counting bytes until nothing changes."""
    end = entries[-1], tuple((len(program), False, 0) for program in programs)
    distances = {state: 0 if state == end else None for state in behind}
    changed = True
    while changed:
        changed = False
        for state, reached in behind.items():
            ways = [distances[other] for other in reached if other is not None and distances[other] is not None]
            if ways and (distances[state] is None or distances[state] > min(ways) + 1):
                distances[state] = min(ways) + 1
                changed = True
    return distances


def plain_overlay(byte_count, instructions, programs, entries):
    """The least of the shortest overlays by a search byte by byte, or None."""
    end = entries[-1], tuple((len(program), False, 0) for program in programs)
    return plain_search(byte_count, instructions, programs, entries)[0].get(end)
