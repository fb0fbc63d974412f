import re
import unittest

from overlapcode.errors import InvalidInstructionSet
from overlapcode.instructions import InstructionSet, is_code
from tests.samples import any_values, same, two_letters

SMALL = ((0, "nop", 1, True), (1, "skip", 2, True), (2, "load", 2, False), (3, "halt", 1, False))
WIDE = ((0, "two", 2, True), (1, "three", 3, True), (2, "add", 3, False))


def full(byte_count):
    """An instruction for each byte, with all lengths and both padding marks."""
    return tuple((opcode, two_letters(opcode), opcode % 12 + 1, opcode % 3 == 0) for opcode in range(byte_count))


def valid_arguments():
    yield 4, SMALL
    yield 8, WIDE
    yield 2, ((1, "a", 12, False),)
    yield 256, ((255, "abcdefgh", 1, True),)
    yield 256, ((0, "z", 1, True), (255, "zz", 12, True))
    yield 100, tuple((10 * k, "x" * (k + 1), 5, True) for k in range(8))
    for byte_count in (2, 3, 12, 100, 255, 256):
        yield byte_count, full(byte_count)


def is_plain(value):
    return type(value) is int


def invalid_field(byte_count, instructions):
    """The invalid field, or None, written apart from the program as a plain reading of the document."""
    if not is_plain(byte_count) or byte_count not in range(2, 257):
        return "byte_count"
    if type(instructions) is not tuple or instructions == ():
        return "instructions"
    opcodes = []
    names = []
    for item in instructions:
        if type(item) is not tuple or [type(part) for part in item] != [int, str, int, bool]:
            return "instructions"
        if item[0] not in range(byte_count) or item[2] not in range(1, 13):
            return "instructions"
        if re.fullmatch("[a-z]{1,8}", item[1]) is None or item[1] in names:
            return "instructions"
        opcodes.append(item[0])
        names.append(item[1])
    return None if opcodes == sorted(set(opcodes)) else "instructions"


def changed(value, replacements):
    """All values that differ from this tuple in one part, at any depth."""
    yield from replacements
    if not isinstance(value, tuple):
        return
    yield list(value)
    for at, part in enumerate(value):
        for other in changed(part, replacements):
            yield (*value[:at], other, *value[at + 1:])
        yield (*value[:at], *value[at + 1:])
        yield (*value[:at], part, part, *value[at + 1:])
        if at > 0:
            yield (*value[:at - 1], part, value[at - 1], *value[at + 1:])
    for extra in (0, True, None, "a", (), (0, "zero", 1, True), (7, "new", 1, True)):
        yield (*value, extra)
        yield (extra, *value)


class InstructionSetTest(unittest.TestCase):
    def check(self, byte_count, instructions):
        """Compare the program with the plain reading."""
        expected = invalid_field(byte_count, instructions)
        before = repr((byte_count, instructions))
        if expected is None:
            made = InstructionSet(byte_count, instructions)
            self.assertTrue(same((made.byte_count, made.instructions), (byte_count, instructions)))
        else:
            with self.assertRaises(InvalidInstructionSet, msg=before) as caught:
                InstructionSet(byte_count, instructions)
            self.assertEqual(caught.exception.field, expected, before)
        self.assertEqual(repr((byte_count, instructions)), before)
        return expected

    def rejected(self, byte_count, instructions, field):
        self.assertEqual(self.check(byte_count, instructions), field, (byte_count, instructions))


class TestValidity(InstructionSetTest):
    def test_valid_ones(self):
        for byte_count, instructions in valid_arguments():
            self.assertIsNone(self.check(byte_count, instructions), (byte_count, instructions))

    def test_arguments_by_name(self):
        made = InstructionSet(instructions=SMALL, byte_count=4)
        self.assertTrue(same((made.byte_count, made.instructions), (4, SMALL)))
        with self.assertRaises(InvalidInstructionSet) as caught:
            InstructionSet(instructions=(), byte_count=4)
        self.assertEqual(caught.exception.field, "instructions")

    def test_byte_count_of_any_kind(self):
        for byte_count in any_values():
            self.check(byte_count, ((0, "nop", 1, True),))
        for byte_count in (1, 0, -2, 257, True, False, None, "4", (4,), [4], {4: 4}):
            self.rejected(byte_count, ((0, "nop", 1, True),), "byte_count")
        for byte_count in (2, 3, 255, 256):
            self.rejected(byte_count, ((0, "nop", 1, True),), None)

    def test_instructions_of_any_kind(self):
        for instructions in any_values():
            self.check(4, instructions)
        self.rejected(4, (), "instructions")
        self.rejected(4, list(SMALL), "instructions")
        self.rejected(4, tuple(list(item) for item in SMALL), "instructions")

    def test_both_invalid(self):
        for byte_count in (1, 257, True, None, "4", [], {}):
            for instructions in ((), [], None, {}, SMALL[::-1], 0, "nop"):
                self.rejected(byte_count, instructions, "byte_count")

    def test_one_part_changed_at_any_depth(self):
        numbers = [0, 1, 3, 4, 7, 8, -1, 12, 13, True, False, None, "", "nop", "skip", "Nop", "abcdefghi", (), [], {}]
        for byte_count, instructions in ((4, SMALL), (8, WIDE), (2, full(2)), (9, ((7, "new", 3, False),))):
            for other in changed(instructions, numbers):
                self.check(byte_count, other)

    def test_one_part_changed_to_any_value(self):
        for other in changed(((1, "nop", 2, True), (2, "add", 12, False)), any_values()):
            self.check(4, other)

    def test_opcode_must_be_a_byte(self):
        for opcode, field in ((0, None), (3, None), (4, "instructions"), (-1, "instructions"), (True, "instructions")):
            self.rejected(4, ((opcode, "nop", 1, True),), field)
        self.rejected(256, ((255, "nop", 1, True),), None)
        self.rejected(256, ((256, "nop", 1, True),), "instructions")

    def test_names(self):
        for name in ("a", "z", "nop", "abcdefgh", "zzzzzzzz"):
            self.rejected(4, ((0, name, 1, True),), None)
        for name in ("", "abcdefghi", "A", "noP", "no p", "nop ", "nop\n", "n0p", "n-p", "{", "`", "\xe9", b"nop",
                     None, 1, ("nop",), ["nop"]):
            self.rejected(4, ((0, name, 1, True),), "instructions")

    def test_lengths(self):
        for length in range(1, 13):
            self.rejected(4, ((0, "nop", length, True),), None)
        for length in (0, 13, -1, True, False, None, "1", (1,), [1]):
            self.rejected(4, ((0, "nop", length, True),), "instructions")

    def test_padding_marks(self):
        for mark in (0, 1, None, "", "True", (), [], (True,)):
            self.rejected(4, ((0, "nop", 1, mark),), "instructions")

    def test_number_of_parts(self):
        for item in ((), (0,), (0, "nop", 1), (0, "nop", 1, True, True), (0, "nop", 1, True, None), "abcd"):
            self.rejected(4, (item,), "instructions")

    def test_order_and_duplicates(self):
        self.rejected(4, SMALL[::-1], "instructions")
        self.rejected(4, (SMALL[0], SMALL[2], SMALL[1]), "instructions")
        self.rejected(4, (SMALL[0], SMALL[0]), "instructions")
        self.rejected(4, ((0, "nop", 1, True), (0, "skip", 2, True)), "instructions")
        self.rejected(4, ((0, "nop", 1, True), (1, "nop", 2, True)), "instructions")
        self.rejected(4, ((0, "nop", 1, True), (1, "add", 2, True), (2, "nop", 1, False)), "instructions")

    def test_last_item_counts(self):
        for item in ((255, "aa", 1, True), (255, "zz", 13, True), (255, "zz", 1, 1), None, [255, "zz", 1, True]):
            self.rejected(256, (*full(255), item), "instructions")
        self.rejected(256, (*full(255), (255, "zz", 1, True)), None)


class TestQueries(unittest.TestCase):
    def test_example(self):
        small = InstructionSet(4, SMALL)
        answers = (small.longest(), small.padding_lengths(), small.length_at(2), small.opcode("halt"))
        self.assertEqual(answers, (2, (1, 2), 2, 3))

    def check(self, made, byte_count, instructions):
        self.assertTrue(same(made.longest(), max(item[2] for item in instructions)))
        padding = tuple(length for length in range(1, 13) if any(item[2:] == (length, True) for item in instructions))
        self.assertTrue(same(made.padding_lengths(), padding))
        for byte in range(byte_count):
            self.assertTrue(same(made.length_at(byte), sum(item[2] for item in instructions if item[0] == byte)))
        for opcode, name, length, is_padding in instructions:
            self.assertTrue(same(made.opcode(name), opcode))

    def test_several_sets_by_turns(self):
        rows = [(InstructionSet(*arguments), *arguments) for arguments in valid_arguments()]
        for turn in range(2):
            for row in rows:
                self.check(*row)
            for row in reversed(rows):
                self.check(*row)

    def test_without_padding(self):
        plain = InstructionSet(4, ((0, "add", 3, False), (3, "sub", 5, False)))
        self.assertEqual(plain.padding_lengths(), ())
        self.assertEqual([plain.length_at(byte) for byte in range(4)], [3, 0, 0, 5])

    def test_padding_of_equal_lengths(self):
        equal = InstructionSet(9, ((0, "a", 7, True), (1, "b", 2, True), (4, "c", 7, True), (8, "d", 12, False)))
        self.assertTrue(same(equal.padding_lengths(), (2, 7)))
        self.assertEqual(equal.longest(), 12)

    def test_longest_may_be_any_instruction(self):
        for at in range(4):
            items = tuple((k, two_letters(k), 12 if k == at else 1, False) for k in range(4))
            self.assertEqual(InstructionSet(4, items).longest(), 12)

    def test_opcode_of_any_value(self):
        small = InstructionSet(4, SMALL)
        expected = {"nop": 0, "skip": 1, "load": 2, "halt": 3}
        for value in [*any_values(), "lo", "loads", "Load", "load ", ("load",), ["load"], {"load": 2}]:
            before = repr(value)
            answer = small.opcode(value)
            self.assertTrue(same(answer, expected.get(value) if isinstance(value, str) else None), before)
            self.assertEqual(repr(value), before)

    def test_arguments_by_name(self):
        small = InstructionSet(4, SMALL)
        self.assertEqual((small.length_at(byte=1), small.opcode(name="load")), (2, 2))


class TestEquality(unittest.TestCase):
    def test_made_separately(self):
        for byte_count, instructions in valid_arguments():
            first = InstructionSet(byte_count, instructions)
            second = InstructionSet(byte_count, tuple(tuple(list(item)) for item in instructions))
            self.assertIs(first == second, True)
            self.assertIs(first != second, False)

    def test_different_ones(self):
        small = InstructionSet(4, SMALL)
        others = [
            InstructionSet(5, SMALL),
            InstructionSet(4, SMALL[:-1]),
            InstructionSet(4, SMALL[1:]),
            InstructionSet(4, (*SMALL[:-1], (3, "stop", 1, False))),
            InstructionSet(4, (*SMALL[:-1], (3, "halt", 2, False))),
            InstructionSet(4, (*SMALL[:-1], (3, "halt", 1, True))),
            InstructionSet(5, (*SMALL[:-1], (4, "halt", 1, False))),
        ]
        for other in others:
            self.assertIs(small == other, False)
            self.assertIs(other == small, False)
            self.assertIs(small != other, True)

    def test_other_kinds(self):
        small = InstructionSet(4, SMALL)
        for other in [*any_values(), SMALL, (4, SMALL), [4, SMALL], {"byte_count": 4, "instructions": SMALL}, object()]:
            self.assertIs(small == other, False)
            self.assertIs(other == small, False)
            self.assertIs(small != other, True)

    def test_another_class_with_the_same_attributes(self):
        class Lookalike:
            byte_count = 4
            instructions = SMALL

        self.assertIs(InstructionSet(4, SMALL) == Lookalike(), False)


class TestIsCode(unittest.TestCase):
    def check(self, byte_count, value):
        expected = type(value) is tuple and all(is_plain(byte) and 0 <= byte < byte_count for byte in value)
        before = repr(value)
        made = InstructionSet(byte_count, ((0, "nop", 1, True),))
        self.assertIs(is_code(made, value), expected, before)
        self.assertEqual(repr(value), before)
        return expected

    def test_codes(self):
        for value in ((), (0,), (3,), (0, 1, 2, 3), (3, 3, 3), (1,) * 1000):
            self.assertTrue(self.check(4, value), value)
        self.assertTrue(self.check(256, tuple(range(256))))

    def test_bytes_that_are_none(self):
        for byte in (4, -1, 5, True, False, None, "", "0", (0,), [0], {}, (), 10 ** 30):
            for value in ((byte,), (0, byte), (byte, 0), (0, 1, byte, 2)):
                self.assertFalse(self.check(4, value), value)

    def test_the_byte_count_itself(self):
        for byte_count in (2, 3, 255, 256):
            self.assertFalse(self.check(byte_count, (byte_count,)))
            self.assertTrue(self.check(byte_count, (byte_count - 1,)))

    def test_any_value(self):
        for byte_count in (2, 4, 256):
            for value in any_values():
                self.check(byte_count, value)
        for value in ([], [0, 1], "01", b"\x00", {0: 1}, None, 0, True):
            self.assertFalse(self.check(4, value), value)

    def test_bytes_need_not_be_opcodes(self):
        self.assertTrue(is_code(InstructionSet(9, ((8, "end", 1, False),)), (0, 3, 8)))

    def test_arguments_by_name(self):
        self.assertTrue(is_code(value=(1,), instruction_set=InstructionSet(4, SMALL)))


if __name__ == "__main__":
    unittest.main()
