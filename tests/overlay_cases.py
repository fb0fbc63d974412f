"""Programs and entries that several tests of overlays share."""

import itertools
import random

from overlapcode.errors import InvalidEntries, InvalidProgram, OverlapError, TooManyStates
from overlapcode.instructions import InstructionSet
from tests.plain import plain_entries, plain_executed, plain_is_program, plain_state_count
from tests.samples import SETS, any_values, random_code, random_program, same

SMALL = InstructionSet(*SETS["small"])
WIDE = InstructionSet(*SETS["wide"])
BARE = InstructionSet(*SETS["no padding"])
LOAD, HALT = ("load", (3,)), ("halt", ())


def small_sets(byte_count, most_length=3):
    """All instruction sets of so few bytes with instructions of up to this length."""
    kinds = [None, *itertools.product(range(1, most_length + 1), (False, True))]
    for row in itertools.product(kinds, repeat=byte_count):
        instructions = tuple((opcode, "abc"[opcode], *kind) for opcode, kind in enumerate(row) if kind is not None)
        if instructions:
            yield InstructionSet(byte_count, instructions)


def random_case(source, instruction_set, most_steps, most_entry):
    """Programs and entries, with not more than 5,000 states."""
    while True:
        many = source.choice((1, 1, 2, 2, 2, 3))
        many = min(many, most_entry + 1)
        programs = tuple(random_program(source, instruction_set, source.randint(0, most_steps)) for at in range(many))
        entries = (0, *sorted(source.sample(range(1, most_entry + 1), many - 1)))
        if plain_state_count(instruction_set.instructions, programs, entries) <= 5000:
            return programs, entries


def read_case(source, instruction_set, size):
    """(programs, entries, code) with programs that the code runs, some operands open, or None if this one runs none."""
    instructions = instruction_set.instructions
    code = random_code(source, instruction_set.byte_count, instructions, size)
    entries = [0, *sorted(source.sample(range(1, 13), source.randint(0, 2)))]
    entries = tuple(entry for entry in entries if entry <= size)
    programs = []
    for entry in entries:
        steps = plain_executed(instructions, code, entry)
        if steps is None or len(steps) > 12:
            return None
        programs.append(tuple(
            (name, tuple(byte if source.random() < 0.7 else None for byte in operands)) for name, operands in steps
        ))
    if plain_state_count(instructions, tuple(programs), entries) > 5000:
        return None
    return tuple(programs), entries, code


def read_cases(names, size, seed, trials):
    """Instruction sets with cases that were read from drawn codes."""
    source = random.Random(seed)
    for name in names:
        instruction_set = InstructionSet(*SETS[name])
        for trial in range(trials):
            case = read_case(source, instruction_set, source.randint(1, size))
            if case is not None:
                yield (instruction_set, *case)


def expected_error(instruction_set, programs, entries, with_states=True):
    """(class, value) of the error that these arguments raise by the document, or None."""
    told = instruction_set.byte_count, instruction_set.instructions
    if type(programs) is not tuple or not 1 <= len(programs) <= 3:
        return InvalidProgram, programs
    for program in programs:
        if not plain_is_program(*told, program):
            return InvalidProgram, program
    if not plain_entries(entries, len(programs)):
        return InvalidEntries, entries
    count = plain_state_count(instruction_set.instructions, programs, entries)
    if with_states and count > 5000:
        return TooManyStates, count
    return None


def programs_of_every_kind():
    """Values for `programs` of "small", most of them invalid."""
    good, other = (LOAD, HALT), ()
    long = (("load", (None,)),) * 12
    return [
        (good,), (other,), (good, other), (good, other, (HALT,)), (long,), (long, long), (long, long, long),
        (good,) * 4, (), [good], good, LOAD, {0: good}, (good, [LOAD]), (good, ([],)), (other, (HALT,) * 13, None),
        (None, True), (good, (("nop", ()),)), ((("load", (4,)),), good), (good, other, (("load", ()),)),
        ((LOAD, LOAD[0]),),
        *any_values(), *[(good, value) for value in any_values()],
    ]


def entries_of_every_kind():
    """Values for `entries`, valid for one, two, three or no programs."""
    return [
        (0,), (0, 1), (0, 12), (0, 1, 2), (0, 5, 12), (0, 11, 12),
        (1,), (1, 2), (0, 0), (0, 2, 2), (0, 2, 1), (0, 13), (0, 12, 13), (0, -1), (-1, 0), (0, 1, 2, 3),
        (0, True), (False, 1), (False,), (0, None), (0, "1"), (0, (1,)), (0, [1]), [0], [0, 1], {0: 1},
        *any_values(),
    ]


class OverlayErrorTest:
    """Checks of the errors of programs, entries and the state count, to be mixed into a test."""

    def check_error(self, call, arguments, expected):
        """Call and compare the error with the expected (class, value)."""
        before = repr(arguments)
        with self.assertRaises(OverlapError, msg=arguments) as caught:
            call(*arguments)
        kind, value = expected
        self.assertIs(type(caught.exception), kind, arguments)
        kept = caught.exception.count if kind is TooManyStates else caught.exception.value
        self.assertTrue(same(kept, value), (arguments, kept))
        self.assertEqual(repr(arguments), before)

    def check_all_errors(self, call, with_states=True):
        """Check a call with programs and entries of every kind, one or several invalid at once."""
        seen = set()
        for programs, entries in itertools.product(programs_of_every_kind(), entries_of_every_kind()):
            expected = expected_error(SMALL, programs, entries, with_states)
            if expected is not None:
                self.check_error(call, (SMALL, programs, entries), expected)
                seen.add(expected[0])
        if with_states:
            self.check_error(call, (BARE, *STATES_5002), (TooManyStates, 5002))
        else:
            call(BARE, *STATES_5002)
        call(BARE, *STATES_5000)
        self.assertEqual(len(seen), 3 if with_states else 2)


# Programs of "no padding" and entries with these state counts.
ADD, SUB = ("add", (None,) * 2), ("sub", (None,) * 4)
STATES_5000 = ((ADD,) * 3 + (SUB,) * 2, (ADD,) * 8), (0, 9)
STATES_5002 = ((SUB,) * 8, (SUB,) * 12), (0, 1)
