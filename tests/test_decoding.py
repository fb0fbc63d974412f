import random
import unittest

from overlapcode.decoding import countdown_at, decode, starts
from overlapcode.errors import InvalidEntry, InvalidOffset, OverlapError
from overlapcode.instructions import InstructionSet
from tests.plain import go_along
from tests.samples import SETS, any_values, random_code, same

SMALL = InstructionSet(*SETS["small"])
WIDE = InstructionSet(*SETS["wide"])


def is_offset(value, least, most):
    return type(value) is int and least <= value <= most


class DecodingTest(unittest.TestCase):
    def check(self, instruction_set, code, entry):
        """Compare all three functions with going along byte by byte; return the ending."""
        countdowns, begun, read, ending = go_along(instruction_set.instructions, code, entry)
        told = (instruction_set.instructions, code, entry)
        self.assertTrue(same(decode(instruction_set, code, entry), (read, ending)), told)
        self.assertTrue(same(starts(instruction_set, code, entry), begun), told)
        for offset in range(entry, len(code) + 1):
            countdown = countdown_at(instruction_set, code, entry, offset)
            self.assertTrue(same(countdown, countdowns[offset]), (*told, offset))
        return ending


class TestAgainstGoingAlong(DecodingTest):
    def test_random_codes_from_every_entry(self):
        source = random.Random(1)
        seen = set()
        for byte_count, instructions in SETS.values():
            instruction_set = InstructionSet(byte_count, instructions)
            for size in [*range(20), 25, 30, 37, 40, 41]:
                code = random_code(source, byte_count, instructions, size)
                for entry in range(size + 1):
                    seen.add(self.check(instruction_set, code, entry)[0])
        self.assertEqual(seen, {"complete", "cut", "stopped"})

    def test_all_short_codes(self):
        for name in ("small", "no padding", "one byte", "zero is invalid"):
            byte_count, instructions = SETS[name]
            instruction_set = InstructionSet(byte_count, instructions)
            codes = [()]
            for size in range(5):
                for code in codes:
                    for entry in range(len(code) + 1):
                        self.check(instruction_set, code, entry)
                codes = [(*code, byte) for code in codes for byte in range(byte_count)]

    def test_all_missing_numbers_of_the_longest_instruction(self):
        instruction_set = InstructionSet(2, ((1, "long", 12, False),))
        for size in range(1, 12):
            code = (1,) + (0,) * (size - 1)
            self.assertEqual(decode(instruction_set, code), ((), ("cut", 0, 12 - size)))
            self.assertEqual(starts(instruction_set, code), (0,))
            self.check(instruction_set, code, 0)
        self.assertEqual(decode(instruction_set, (1,) * 12), (((0, "long", (1,) * 11),), ("complete",)))

    def test_operands_are_the_bytes_behind_the_opcode(self):
        instruction_set = InstructionSet(20, ((1, "four", 4, True), (2, "one", 1, False), (3, "three", 3, False)))
        code = (9, 1, 17, 2, 3, 2, 3, 18, 1, 1, 5, 6, 7)
        read = ((1, "four", (17, 2, 3)), (5, "one", ()), (6, "three", (18, 1)), (9, "four", (5, 6, 7)))
        self.assertTrue(same(decode(instruction_set, code, 1), (read, ("complete",))))
        self.assertEqual(starts(instruction_set, code, 1), (1, 5, 6, 9))

    def test_long_codes(self):
        source = random.Random(2)
        for name in ("small", "longest", "all"):
            byte_count, instructions = SETS[name]
            instruction_set = InstructionSet(byte_count, instructions)
            code = tuple(source.choice(instructions)[0] for place in range(100000))
            for entry in (0, 1, 50000, 99995, 100000):
                countdowns, begun, read, ending = go_along(instructions, code, entry)
                self.assertEqual(decode(instruction_set, code, entry), (read, ending))
                self.assertEqual(starts(instruction_set, code, entry), begun)
                for offset in (entry, (entry + 100000) // 2, 99999, 100000):
                    if offset >= entry:
                        self.assertEqual(countdown_at(instruction_set, code, entry, offset), countdowns[offset])

    def test_stop_in_a_long_code(self):
        code = (0,) * 60000 + (7,) + (0,) * 39999
        read, ending = decode(WIDE, code)
        self.assertEqual((len(read), ending), (30000, ("stopped", 60000)))
        self.assertEqual(len(starts(WIDE, code)), 30000)
        rows = [countdown_at(WIDE, code, 0, offset) for offset in (59999, 60000, 60001, 100000)]
        self.assertEqual(rows, [1, 0, None, None])
        self.assertEqual(countdown_at(WIDE, code, 60001, 100000), 1)


class TestExamplesAndEdges(DecodingTest):
    def test_examples(self):
        self.assertTrue(same(decode(SMALL, (2, 3, 1), 0), (((0, "load", (3,)),), ("cut", 2, 1))))
        self.assertTrue(same(decode(SMALL, (2, 3, 3), 1), (((1, "halt", ()), (2, "halt", ())), ("complete",))))

    def test_empty_code(self):
        for instruction_set in (SMALL, WIDE):
            self.assertTrue(same(decode(instruction_set, ()), ((), ("complete",))))
            self.assertTrue(same(starts(instruction_set, ()), ()))
            self.assertTrue(same(countdown_at(instruction_set, (), 0, 0), 0))

    def test_entry_equal_to_the_length(self):
        for code in ((0,), (2, 3, 1), (7,), (0, 1, 7)):
            self.assertTrue(same(decode(WIDE, code, len(code)), ((), ("complete",))))
            self.assertTrue(same(starts(WIDE, code, len(code)), ()))
            self.assertTrue(same(countdown_at(WIDE, code, len(code), len(code)), 0))

    def test_without_an_entry(self):
        for code in ((), (2, 3, 1), (3, 3), (1, 1, 1)):
            self.assertEqual(decode(SMALL, code), decode(SMALL, code, 0))
            self.assertEqual(starts(SMALL, code), starts(SMALL, code, 0))

    def test_cut_instruction_is_among_the_starts_alone(self):
        self.assertEqual(starts(SMALL, (2, 3, 1)), (0, 2))
        self.assertEqual(decode(SMALL, (1,)), ((), ("cut", 0, 1)))
        self.assertEqual(countdown_at(SMALL, (1,), 0, 1), 1)

    def test_invalid_byte(self):
        code = (0, 9, 7, 0, 0)
        instruction_set = InstructionSet(10, SETS["wide"][1])
        self.assertEqual(decode(instruction_set, code), (((0, "two", (9,)),), ("stopped", 2)))
        self.assertEqual(starts(instruction_set, code), (0,))
        countdowns = [countdown_at(instruction_set, code, 0, offset) for offset in range(6)]
        self.assertTrue(same(countdowns, [0, 1, 0, None, None, None]))
        self.assertEqual(decode(instruction_set, code, 1), ((), ("stopped", 1)))
        self.assertEqual(starts(instruction_set, code, 1), ())
        self.assertTrue(same(countdown_at(instruction_set, code, 1, 1), 0))
        self.assertIsNone(countdown_at(instruction_set, code, 1, 2))

    def test_invalid_byte_at_the_end(self):
        self.assertEqual(decode(WIDE, (0, 0, 5)), (((0, "two", (0,)),), ("stopped", 2)))
        self.assertTrue(same(countdown_at(WIDE, (0, 0, 5), 0, 2), 0))
        self.assertIsNone(countdown_at(WIDE, (0, 0, 5), 0, 3))

    def test_invalid_byte_as_an_operand(self):
        self.assertEqual(decode(WIDE, (1, 7, 5)), (((0, "three", (7, 5)),), ("complete",)))

    def test_arguments_by_name(self):
        code = (2, 3, 1)
        self.assertEqual(decode(entry=1, code=code, instruction_set=SMALL), decode(SMALL, code, 1))
        self.assertEqual(starts(entry=1, code=code, instruction_set=SMALL), (1, 2))
        self.assertEqual(countdown_at(offset=1, entry=0, code=code, instruction_set=SMALL), 1)

    def test_equal_calls_return_equal_results(self):
        code = (2, 3, 1, 0, 1)
        for entry in (0, 3, 1, 3, 0):
            self.assertEqual(decode(SMALL, code, entry), decode(SMALL, tuple(list(code)), entry))
            self.check(SMALL, code, entry)


class TestInvalidArguments(unittest.TestCase):
    def rejected(self, error, value, call, *arguments):
        before = repr(value)
        with self.assertRaises(OverlapError, msg=before) as caught:
            call(*arguments)
        self.assertIs(type(caught.exception), error, before)
        self.assertIs(caught.exception.value, value)
        self.assertEqual(repr(value), before)

    def values(self, size):
        rows = [size + 1, size + 2, size - 1, -2, str(size), (size,), [size], {size: size}, {"entry": 0}]
        return [*any_values(), size, 0, *rows]

    def test_entries_of_every_kind(self):
        for code in ((), (0,), (2, 3, 1), (0,) * 12):
            for entry in self.values(len(code)):
                for call in (decode, starts):
                    if is_offset(entry, 0, len(code)):
                        call(SMALL, code, entry)
                    else:
                        self.rejected(InvalidEntry, entry, call, SMALL, code, entry)

    def test_entries_just_outside(self):
        for size in (0, 1, 5):
            for entry in (-1, size + 1, True, False, None):
                self.rejected(InvalidEntry, entry, decode, SMALL, (0,) * size, entry)
                self.rejected(InvalidEntry, entry, starts, SMALL, (0,) * size, entry)
                self.rejected(InvalidEntry, entry, countdown_at, SMALL, (0,) * size, entry, size)

    def test_entries_and_offsets_together(self):
        for code in ((), (0,), (2, 3, 1)):
            for entry in self.values(len(code)):
                for offset in self.values(len(code)):
                    if not is_offset(entry, 0, len(code)):
                        self.rejected(InvalidEntry, entry, countdown_at, SMALL, code, entry, offset)
                    elif not is_offset(offset, entry, len(code)):
                        self.rejected(InvalidOffset, offset, countdown_at, SMALL, code, entry, offset)
                    else:
                        countdown_at(SMALL, code, entry, offset)

    def test_offsets_just_outside(self):
        for entry in range(4):
            for offset in (entry - 1, -1, 4, True, False, None, str(entry), (entry,), [entry], {entry: entry}):
                self.rejected(InvalidOffset, offset, countdown_at, SMALL, (2, 3, 1), entry, offset)

    def test_both_invalid_at_once(self):
        for entry in (-1, 4, True, None, "0", (), [], {}):
            for offset in (-1, 4, False, None, "0", (), [], {}):
                self.rejected(InvalidEntry, entry, countdown_at, SMALL, (2, 3, 1), entry, offset)


if __name__ == "__main__":
    unittest.main()
