"""Instruction sets, and which values are codes of one."""

from overlapcode.checks import is_ascending, is_integer_between
from overlapcode.errors import InvalidInstructionSet

LEAST_BYTE_COUNT = 2
MOST_BYTE_COUNT = 256
MOST_LETTERS = 8
MOST_LENGTH = 12


class InstructionSet:
    """The instructions that a decoder knows, over bytes below a byte count."""

    def __init__(self, byte_count, instructions):
        if not is_integer_between(byte_count, LEAST_BYTE_COUNT, MOST_BYTE_COUNT):
            raise InvalidInstructionSet("byte_count")
        if not are_instructions(byte_count, instructions):
            raise InvalidInstructionSet("instructions")
        self.byte_count = byte_count
        self.instructions = instructions
        # Decoders look up every byte of long codes, so a search for each would be slow.
        self.length_of_opcode = {opcode: length for opcode, name, length, is_padding in instructions}
        self.opcode_of_name = {name: opcode for opcode, name, length, is_padding in instructions}

    def __eq__(self, other):
        return (
            isinstance(other, InstructionSet)
            and self.byte_count == other.byte_count
            and self.instructions == other.instructions
        )

    def longest(self):
        """Return the length of the longest instruction."""
        return max([length for opcode, name, length, is_padding in self.instructions])

    def padding_lengths(self):
        """Return the lengths of the padding instructions, ascending, without duplicates."""
        return tuple(sorted({length for opcode, name, length, is_padding in self.instructions if is_padding}))

    def length_at(self, byte):
        """Return the length of the instruction with this opcode, or 0."""
        return self.length_of_opcode.get(byte, 0)

    def opcode(self, name):
        """Return the opcode of the instruction with this name, or None."""
        # A list cannot be looked up in a dict, and no name is anything but a string.
        if not isinstance(name, str):
            return None
        return self.opcode_of_name.get(name)


def are_instructions(byte_count, value):
    """Return whether this is a valid tuple of instructions for the byte count."""
    if not isinstance(value, tuple) or len(value) == 0:
        return False
    if not all([is_instruction(byte_count, item) for item in value]):
        return False
    opcodes = [opcode for opcode, name, length, is_padding in value]
    names = [name for opcode, name, length, is_padding in value]
    return is_ascending(opcodes) and len(set(names)) == len(names)


def is_instruction(byte_count, value):
    """Return whether this is a valid instruction for the byte count."""
    if not isinstance(value, tuple) or len(value) != 4:
        return False
    opcode, name, length, is_padding = value
    return (
        is_integer_between(opcode, 0, byte_count - 1)
        and is_name(name)
        and is_integer_between(length, 1, MOST_LENGTH)
        and isinstance(is_padding, bool)
    )


def is_name(value):
    """Return whether this is a valid name of an instruction."""
    if not isinstance(value, str) or not 1 <= len(value) <= MOST_LETTERS:
        return False
    return all(["a" <= letter <= "z" for letter in value])


def is_code(instruction_set, value):
    """Return whether this is a tuple of bytes of the instruction set."""
    if not isinstance(value, tuple):
        return False
    greatest = instruction_set.byte_count - 1
    return all([is_integer_between(byte, 0, greatest) for byte in value])
