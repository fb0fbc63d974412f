"""Programs: the steps that a code is to run from an entry."""

from overlapcode.checks import is_integer_between
from overlapcode.decoding import check_entry, decode
from overlapcode.errors import InvalidProgram

MOST_STEPS = 12


def is_program(instruction_set, value):
    """Return whether this is a program of the instruction set."""
    if not isinstance(value, tuple) or len(value) > MOST_STEPS:
        return False
    lengths = step_lengths(instruction_set)
    return all([is_step(instruction_set, lengths, item) for item in value])


def executed(instruction_set, code, entry=0):
    """Return the steps that the decoder from the entry reads, or None if it is not complete."""
    read, ending = decode(instruction_set, code, entry)
    if ending != ("complete",):
        return None
    lengths = step_lengths(instruction_set)
    return tuple([(name, operands) for offset, name, operands in read if name in lengths])


def runs(instruction_set, code, entry, program):
    """Return whether the code runs the program from the entry."""
    check_entry(code, entry)
    check_program(instruction_set, program)
    steps = executed(instruction_set, code, entry)
    if steps is None or len(steps) != len(program):
        return False
    return all([is_match(step, wanted) for step, wanted in zip(steps, program)])


def check_program(instruction_set, program):
    """Raise an error if this is not a program."""
    if not is_program(instruction_set, program):
        raise InvalidProgram(program)


def step_lengths(instruction_set):
    """Return the length of each instruction that is not padding, by its name."""
    return {name: length for opcode, name, length, is_padding in instruction_set.instructions if not is_padding}


def is_step(instruction_set, lengths, value):
    """Return whether this is a step, if the instructions that are not padding have these lengths."""
    if not isinstance(value, tuple) or len(value) != 2:
        return False
    name, operands = value
    # A list cannot be looked up in a dict.
    if not isinstance(name, str) or name not in lengths:
        return False
    if not isinstance(operands, tuple) or len(operands) != lengths[name] - 1:
        return False
    greatest = instruction_set.byte_count - 1
    return all([item is None or is_integer_between(item, 0, greatest) for item in operands])


def is_match(step, wanted):
    """Return whether a step that was read matches one of a program."""
    name, operands = step
    wanted_name, wanted_operands = wanted
    if name != wanted_name:
        return False
    return all([item is None or item == byte for byte, item in zip(operands, wanted_operands)])
