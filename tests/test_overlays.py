import random
import unittest

from overlapcode.fillers import filler
from overlapcode.instructions import InstructionSet
from overlapcode.overlays import is_overlay, overlay, overlay_length, state_count
from tests.overlay_cases import (BARE, HALT, LOAD, SMALL, STATES_5000, STATES_5002, WIDE, OverlayErrorTest, random_case,
                                 read_cases, small_sets)
from tests.plain import all_codes, plain_is_overlay, plain_overlay, plain_state_count
from tests.samples import SETS, any_values, same


class OverlayTest(unittest.TestCase):
    def check_found(self, instruction_set, programs, entries, expected):
        told = instruction_set.instructions, programs, entries
        self.assertTrue(same(overlay(instruction_set, programs, entries), expected), told)
        length = None if expected is None else len(expected)
        self.assertTrue(same(overlay_length(instruction_set, programs, entries), length), told)


class TestExamples(OverlayTest):
    def test_examples(self):
        self.assertTrue(same(overlay(SMALL, ((LOAD,), (HALT,)), (0, 1)), (2, 3)))
        self.assertIsNone(overlay(SMALL, ((LOAD, HALT), (HALT,)), (0, 1)))

    def test_lengths_of_the_examples(self):
        self.assertTrue(same(overlay_length(SMALL, ((LOAD,), (HALT,)), (0, 1)), 2))
        self.assertIsNone(overlay_length(SMALL, ((LOAD, HALT), (HALT,)), (0, 1)))

    def test_arguments_by_name(self):
        case = {"entries": (0, 1), "programs": ((LOAD,), (HALT,)), "instruction_set": SMALL}
        self.assertEqual(overlay(**case), (2, 3))
        self.assertEqual(overlay_length(**case), 2)
        self.assertEqual(state_count(**case), 2 * 5 * 4)
        self.assertIs(is_overlay(value=(2, 3), **case), True)


class TestStateCount(unittest.TestCase):
    def test_against_the_terms(self):
        source = random.Random(1)
        for byte_count, instructions in SETS.values():
            instruction_set = InstructionSet(byte_count, instructions)
            for trial in range(12):
                programs, entries = random_case(source, instruction_set, 3, 12)
                expected = plain_state_count(instructions, programs, entries)
                self.assertTrue(same(state_count(instruction_set, programs, entries), expected))

    def test_known_ones(self):
        self.assertEqual(state_count(SMALL, ((),), (0,)), 2)
        self.assertEqual(state_count(BARE, ((),), (0,)), 1)
        self.assertEqual(state_count(WIDE, ((("add", (1, None)),) * 2, (), ()), (0, 2, 12)), 13 * 13 * 3 * 3)
        self.assertEqual(state_count(BARE, *STATES_5000), 5000)
        self.assertEqual(state_count(BARE, *STATES_5002), 5002)

    def test_great_numbers_raise_nothing(self):
        program = (("load", (None,) * 11),) * 12
        instruction_set = InstructionSet(*SETS["longest is load"])
        term = 1 + 12 + 132 + 13 * 6
        self.assertEqual(state_count(instruction_set, (program,) * 3, (0, 1, 12)), 13 * term ** 3)


class TestErrors(OverlayErrorTest, unittest.TestCase):
    def test_state_count(self):
        self.check_all_errors(state_count, with_states=False)

    def test_overlay_length(self):
        self.check_all_errors(overlay_length)

    def test_overlay(self):
        self.check_all_errors(overlay)

    def test_is_overlay(self):
        for value in ((), (2, 3), None, [2, 3]):
            self.check_all_errors(lambda instruction_set, programs, entries:
                                  is_overlay(instruction_set, programs, entries, value))


class TestAgainstAllCodes(OverlayTest):
    def check(self, instruction_set, programs, entries, most):
        """Compare with all codes of up to `most` bytes; return the first overlay among them."""
        byte_count, instructions = instruction_set.byte_count, instruction_set.instructions
        first = None
        for code in all_codes(byte_count, most):
            expected = plain_is_overlay(instructions, programs, entries, code)
            answer = is_overlay(instruction_set, programs, entries, code)
            self.assertIs(answer, expected, (instructions, programs, entries, code))
            if expected and first is None:
                first = code
        if first is not None:
            self.check_found(instruction_set, programs, entries, first)
        else:
            length = overlay_length(instruction_set, programs, entries)
            self.assertTrue(length is None or length > most, (instructions, programs, entries, length))
        return first

    def test_two_bytes(self):
        source = random.Random(11)
        found = 0
        for instruction_set in small_sets(2):
            for trial in range(3):
                programs, entries = random_case(source, instruction_set, 2, 3)
                found += self.check(instruction_set, programs, entries, 6) is not None
        self.assertGreater(found, 30)

    def test_three_bytes(self):
        source = random.Random(12)
        found = 0
        for instruction_set in source.sample(list(small_sets(3)), 40):
            programs, entries = random_case(source, instruction_set, 2, 3)
            found += self.check(instruction_set, programs, entries, 6) is not None
        self.assertGreater(found, 8)

    def test_against_a_search_byte_by_byte(self):
        source = random.Random(13)
        found = {True: 0, False: 0}
        for byte_count, many in ((2, 200), (3, 200)):
            rows = list(small_sets(byte_count))
            for trial in range(many):
                instruction_set = source.choice(rows)
                programs, entries = random_case(source, instruction_set, 3, 4)
                if plain_state_count(instruction_set.instructions, programs, entries) <= 400:
                    expected = plain_overlay(byte_count, instruction_set.instructions, programs, entries)
                    self.check_found(instruction_set, programs, entries, expected)
                    found[expected is None] += 1
        self.assertGreater(min(found.values()), 50)

    def test_sets_of_more_bytes(self):
        source = random.Random(14)
        for name in ("small", "wide", "even", "lengths twice", "zero is load", "no padding", "threes"):
            instruction_set = InstructionSet(*SETS[name])
            for trial in range(12):
                programs, entries = random_case(source, instruction_set, 2, 4)
                if plain_state_count(instruction_set.instructions, programs, entries) <= 600:
                    expected = plain_overlay(*SETS[name], programs, entries)
                    self.check_found(instruction_set, programs, entries, expected)


class TestProgramsReadFromCodes(OverlayTest):
    def test_no_longer_than_the_code(self):
        many = 0
        names = ("all", "few of many", "small", "longest is load", "wide", "nine and twelve", "lengths twice")
        for instruction_set, programs, entries, code in read_cases(names, 24, 21, 110):
            many += 1
            told = instruction_set.instructions, programs, entries, code
            self.assertIs(is_overlay(instruction_set, programs, entries, code), True, told)
            found = overlay(instruction_set, programs, entries)
            self.assertIsNotNone(found, told)
            self.assertTrue(plain_is_overlay(instruction_set.instructions, programs, entries, found), told)
            self.assertIs(is_overlay(instruction_set, programs, entries, found), True, told)
            self.assertLessEqual((len(found), found), (len(code), code), told)
            self.assertEqual(overlay_length(instruction_set, programs, entries), len(found))
        self.assertGreater(many, 100)

    def test_one_program(self):
        # From one entry the shortest overlay is the program itself, with 0 for what is open.
        program = (("load", (None,)), HALT, ("load", (2,)), HALT)
        self.check_found(SMALL, (program,), (0,), (2, 0, 3, 2, 2, 3))
        self.check_found(WIDE, ((("add", (None, 7)),),), (0,), (2, 0, 7))

    def test_many_states(self):
        program = (("load", (None,)),) * 12
        self.check_found(SMALL, (program, program), (0, 1), (0, *(2, 0) * 12))
        self.check_found(SMALL, (program, program[1:]), (0, 2), (2, 0) * 12)
        self.check_found(SMALL, (program, program[1:]), (0, 1), (2, 0) * 12)
        # Without padding both decoders come to the end only if their programs are as long as the rest of the code.
        self.check_found(BARE, *STATES_5000, None)


class TestEmptyPrograms(OverlayTest):
    def test_fillers(self):
        source = random.Random(31)
        many = 0
        for byte_count, instructions in SETS.values():
            instruction_set = InstructionSet(byte_count, instructions)
            longest = instruction_set.longest()
            for trial in range(6):
                size = min(source.randint(1, 3), longest)
                entries = (0, *sorted(source.sample(range(1, longest), size - 1)))
                programs = ((),) * len(entries)
                if plain_state_count(instructions, programs, entries) <= 5000:
                    many += 1
                    self.check_found(instruction_set, programs, entries, filler(instruction_set, entries))
        self.assertGreater(many, 50)

    def test_the_empty_code(self):
        self.check_found(SMALL, ((),), (0,), ())
        self.check_found(BARE, ((),), (0,), ())
        self.assertIs(is_overlay(BARE, ((),), (0,), ()), True)

    def test_shorter_than_the_last_entry(self):
        self.check_found(SMALL, ((), ()), (0, 12), (0,) * 12)
        self.check_found(BARE, ((), ()), (0, 1), None)
        for size in range(12):
            self.assertIs(is_overlay(SMALL, ((), ()), (0, 12), (0,) * size), False, size)
        self.assertIs(is_overlay(SMALL, ((), ()), (0, 12), (0,) * 12), True)
        self.assertIs(is_overlay(SMALL, ((HALT,), ()), (0, 2), (3,)), False)
        self.assertIs(is_overlay(SMALL, ((HALT,), ()), (0, 2), (3, 0)), True)
        self.check_found(SMALL, ((HALT,), ()), (0, 2), (0, 3))


class TestIsOverlay(unittest.TestCase):
    def test_any_value(self):
        for programs, entries in ((((),), (0,)), (((LOAD,), (HALT,)), (0, 1))):
            for value in [*any_values(), [2, 3], (2, True), (2, 4), ("2", "3"), ((2, 3),), "23", {2: 3}]:
                before = repr(value)
                expected = type(value) is tuple and all(type(byte) is int and 0 <= byte < 4 for byte in value)
                expected = expected and plain_is_overlay(SMALL.instructions, programs, entries, value)
                self.assertIs(is_overlay(SMALL, programs, entries, value), expected, value)
                self.assertEqual(repr(value), before)

    def test_each_program_from_its_entry(self):
        self.assertIs(is_overlay(SMALL, ((LOAD,), (HALT,)), (0, 1), (2, 3)), True)
        self.assertIs(is_overlay(SMALL, ((HALT,), (LOAD,)), (0, 1), (2, 3)), False)
        self.assertIs(is_overlay(SMALL, ((LOAD,), ()), (0, 1), (2, 3)), False)
        self.assertIs(is_overlay(SMALL, ((LOAD,), ()), (0, 2), (2, 3)), True)
        self.assertIs(is_overlay(SMALL, ((LOAD,), (HALT,), ()), (0, 1, 2), (2, 3)), True)

    def test_long_value(self):
        self.assertIs(is_overlay(SMALL, ((HALT,),), (0,), (0,) * 99999 + (3,)), True)
        self.assertIs(is_overlay(SMALL, ((HALT,),), (0,), (0,) * 99998 + (1, 3)), False)


if __name__ == "__main__":
    unittest.main()
