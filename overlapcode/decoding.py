"""Decoding a code from an entry."""

from overlapcode.checks import is_integer_between
from overlapcode.errors import InvalidEntry, InvalidOffset


def decode(instruction_set, code, entry=0):
    """Return the instructions that the decoder reads to their end, and how it ends."""
    check_entry(code, entry)
    begun, following = walk(instruction_set, code, entry)
    # Only the last instruction can be cut.
    complete = begun[:-1] if following > len(code) else begun
    return read_instructions(instruction_set, code, complete), ending(code, begun, following)


def starts(instruction_set, code, entry=0):
    """Return the offsets at which the decoder begins an instruction."""
    check_entry(code, entry)
    begun, following = walk(instruction_set, code, entry)
    return tuple(begun)


def countdown_at(instruction_set, code, entry, offset):
    """Return the decoder's countdown at the offset, or None."""
    check_entry(code, entry)
    if not is_integer_between(offset, entry, len(code)):
        raise InvalidOffset(offset)
    # The bytes from the offset on have no influence on the countdown there.
    passed = code[:offset]
    begun, following = walk(instruction_set, passed, entry)
    return countdown_behind(passed, following)


def check_entry(code, entry):
    """Raise an error if no decoder can enter the code there."""
    if not is_integer_between(entry, 0, len(code)):
        raise InvalidEntry(entry)


def walk(instruction_set, code, entry):
    """Return the offsets at which the decoder begins instructions, and the one where the next would begin.

    The latter is the offset of the invalid byte if the decoder stops, and it is above the length of the code if the
    last instruction is cut. An entry above the length stands for an instruction that began in front of the code.
    """
    begun = []
    offset = entry
    while offset < len(code) and instruction_set.length_at(code[offset]) > 0:
        begun.append(offset)
        offset += instruction_set.length_at(code[offset])
    return begun, offset


def countdown_behind(code, following):
    """Return the countdown behind the code, or None, if the next instruction would begin at this offset."""
    return None if following < len(code) else following - len(code)


def ending(code, begun, following):
    """Return how a decoder ends that has walked like this."""
    if following < len(code):
        return ("stopped", following)
    if following > len(code):
        return ("cut", begun[-1], following - len(code))
    return ("complete",)


def read_instructions(instruction_set, code, offsets):
    """Return (offset, name, operands) for the instructions at these offsets."""
    names = {opcode: name for opcode, name, length, is_padding in instruction_set.instructions}
    rows = []
    for offset in offsets:
        length = instruction_set.length_at(code[offset])
        rows.append((offset, names[code[offset]], code[offset + 1:offset + length]))
    return tuple(rows)
