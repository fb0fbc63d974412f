"""Overlays: codes that run a program of its own from each of several entries."""

from overlapcode.checks import is_ascending, is_integer_between
from overlapcode.errors import InvalidEntries, InvalidProgram, TooManyStates
from overlapcode.instructions import is_code
from overlapcode.programs import check_program, runs
from overlapcode.states import StateMachine, code_to, explore

MOST_PROGRAMS = 3
GREATEST_ENTRY = 12
MOST_STATES = 5000


def state_count(instruction_set, programs, entries):
    """Return the state count of the programs and entries."""
    check_programs(instruction_set, programs)
    check_entries(programs, entries)
    count = entries[-1] + 1
    for program in programs:
        count *= decoder_count(instruction_set, program)
    return count


def is_overlay(instruction_set, programs, entries, value):
    """Return whether the value is an overlay of the programs from the entries."""
    check_overlay(instruction_set, programs, entries)
    if not is_code(instruction_set, value) or len(value) < entries[-1]:
        return False
    return all([runs(instruction_set, value, entry, program) for entry, program in zip(entries, programs)])


def overlay_length(instruction_set, programs, entries):
    """Return the length of the shortest overlays, or None."""
    shortest = overlay(instruction_set, programs, entries)
    return None if shortest is None else len(shortest)


def overlay(instruction_set, programs, entries):
    """Return the least of the shortest overlays, or None."""
    check_overlay(instruction_set, programs, entries)
    machine = StateMachine(instruction_set, programs, entries)
    states, origins, moves = explore(machine, True)
    if not machine.is_final(states[-1]):
        return None
    return code_to(origins, len(states) - 1)


def check_overlay(instruction_set, programs, entries):
    """Raise an error if there are no such overlays to speak of, or too many states."""
    count = state_count(instruction_set, programs, entries)
    if count > MOST_STATES:
        raise TooManyStates(count)


def check_programs(instruction_set, programs):
    """Raise an error if this is not a tuple of one to three programs."""
    if not isinstance(programs, tuple) or not 1 <= len(programs) <= MOST_PROGRAMS:
        raise InvalidProgram(programs)
    for program in programs:
        check_program(instruction_set, program)


def check_entries(programs, entries):
    """Raise an error if this is not a tuple of entries for the programs."""
    if not are_entries(entries) or len(entries) != len(programs):
        raise InvalidEntries(entries)


def are_entries(value):
    """Return whether this is a tuple of entries for some number of programs."""
    if not isinstance(value, tuple) or not all([is_integer_between(item, 0, GREATEST_ENTRY) for item in value]):
        return False
    return len(value) > 0 and value[0] == 0 and is_ascending(value)


def decoder_count(instruction_set, program):
    """Return the number of states that a decoder alone can have in the program."""
    operand_count = sum([len(operands) for name, operands in program])
    return 1 + len(program) + operand_count + (len(program) + 1) * longest_rest(instruction_set)


def longest_rest(instruction_set):
    """Return the longest padding length minus 1, or 0 without padding."""
    lengths = instruction_set.padding_lengths()
    return lengths[-1] - 1 if len(lengths) > 0 else 0
