import itertools
import random
import re
import unittest

from overlapcode.errors import InvalidInstructionSet, OverlapError, ParseError
from overlapcode.formats import (format_code, format_instruction_set, format_listing, format_program, parse_code,
                                 parse_instruction_set, parse_program)
from overlapcode.instructions import InstructionSet
from tests.plain import go_along
from tests.samples import SETS, any_values, random_code, random_program, same

SMALL = InstructionSet(*SETS["small"])
WIDE = InstructionSet(*SETS["wide"])
SMALL_TEXT = "bytes 4\n0 nop 1 padding\n1 skip 2 padding\n2 load 2\n3 halt 1"
NUMBER = "(0|[1-9][0-9]{0,5})"
INSTRUCTION = re.compile(f"{NUMBER} ([a-z]{{1,8}}) {NUMBER}( padding)?")


def every_set():
    return [InstructionSet(*row) for row in SETS.values()]


def plain_bytes(byte_count, words):
    """Whether all words are bytes, by their text."""
    return all(re.fullmatch(NUMBER, word) and int(word) < byte_count for word in words)


def plain_parse_code(instruction_set, text):
    """The code, or the line of the error as an integer."""
    if type(text) is not str:
        return 0
    first, *later = text.split("\n")
    if first != "-" and not plain_bytes(instruction_set.byte_count, first.split(" ")):
        return 0
    if later:
        return 1
    return () if first == "-" else tuple(int(word) for word in first.split(" "))


def plain_parse_instruction_set(text):
    """The instruction set, or the line of the error as an integer."""
    if type(text) is not str:
        return 0
    lines = text.split("\n")
    if not re.fullmatch(f"bytes {NUMBER}", lines[0]):
        return 0
    rows = []
    for number, line in enumerate(lines[1:], start=1):
        found = INSTRUCTION.fullmatch(line)
        if found is None:
            return number
        rows.append((int(found[1]), found[2], int(found[3]), found[4] is not None))
    try:
        return InstructionSet(int(lines[0][6:]), tuple(rows))
    except InvalidInstructionSet:
        return len(lines)


def plain_parse_program(instruction_set, text):
    """The program, or the line of the error as an integer."""
    if type(text) is not str:
        return 0
    if text == "-":
        return ()
    lengths = {name: length for opcode, name, length, is_padding in instruction_set.instructions if not is_padding}
    steps = []
    for number, line in enumerate(text.split("\n")):
        name, *words = line.split(" ")
        if name not in lengths or len(words) != lengths[name] - 1:
            return number
        if not plain_bytes(instruction_set.byte_count, [word for word in words if word != "?"]):
            return number
        steps.append((name, tuple(None if word == "?" else int(word) for word in words)))
    return tuple(steps) if len(steps) <= 12 else len(steps)


def changed_texts(text, source, most=150):
    """The text with something changed at any place."""
    pieces = [" ", "\n", "0", "1", "9", "-", "?", "a", "z", "A", "+", ".", "padding", " padding", "bytes ", "000000",
              "  "]
    rows = {text + "\n", "\n" + text, text + " ", " " + text, text + "\n\n", "", " ", "\n", text * 2,
            text + "\n" + text}
    for at in range(len(text) + 1):
        for piece in pieces:
            rows.add(text[:at] + piece + text[at:])
            rows.add(text[:at] + piece + text[at + 1:])
        rows.add(text[:at] + text[at + 1:])
        rows.add(text[:at])
    lines = text.split("\n")
    for first, second in itertools.combinations(range(len(lines)), 2):
        swapped = list(lines)
        swapped[first], swapped[second] = lines[second], lines[first]
        rows.add("\n".join(swapped))
    for at in range(len(lines)):
        rows.add("\n".join(lines[:at] + lines[at + 1:]))
        rows.add("\n".join(lines[:at] + [lines[at]] + lines[at:]))
        rows.add("\n".join(lines[:at] + [""] + lines[at:]))
        rows.add("\n".join(lines[:at] + ["-"] + lines[at:]))
    rows = sorted(rows)
    return rows if len(rows) <= most else source.sample(rows, most)


class FormatTest(unittest.TestCase):
    def check(self, call, arguments, expected):
        """Compare with the expected value, or with the line of the error if that is an integer."""
        before = repr(arguments)
        if type(expected) is int:
            with self.assertRaises(OverlapError, msg=arguments) as caught:
                call(*arguments)
            self.assertIs(type(caught.exception), ParseError, arguments)
            self.assertTrue(same(caught.exception.line, expected), (arguments, caught.exception.line, expected))
        elif isinstance(expected, InstructionSet):
            answer = call(*arguments)
            self.assertEqual(answer, expected)
            self.assertTrue(same((answer.byte_count, answer.instructions),
                                 (expected.byte_count, expected.instructions)))
        else:
            self.assertTrue(same(call(*arguments), expected), arguments)
        self.assertEqual(repr(arguments), before)
        return expected


class TestCodes(FormatTest):
    def test_format(self):
        self.assertEqual(format_code(()), "-")
        self.assertEqual(format_code((0,)), "0")
        self.assertEqual(format_code((2, 30, 255)), "2 30 255")
        self.assertEqual(format_code(code=(1, 2)), "1 2")

    def test_parsed_back(self):
        source = random.Random(1)
        for instruction_set in every_set():
            for size in (0, 1, 2, 5, 50):
                code = random_code(source, instruction_set.byte_count, instruction_set.instructions, size)
                text = format_code(code)
                self.assertEqual(text, " ".join(str(byte) for byte in code) if code else "-")
                self.check(parse_code, (instruction_set, text), code)

    def test_changed(self):
        source = random.Random(2)
        seen = set()
        for instruction_set in every_set():
            for size in (0, 1, 3, 6):
                text = format_code(random_code(source, instruction_set.byte_count, instruction_set.instructions, size))
                for changed in changed_texts(text, source):
                    expected = plain_parse_code(instruction_set, changed)
                    self.check(parse_code, (instruction_set, changed), expected)
                    seen.add(expected if type(expected) is int else "code")
        self.assertEqual(seen, {0, 1, "code"})

    def test_known_ones(self):
        for text, expected in (
            ("-", ()), ("0", (0,)), ("3 0", (3, 0)), ("4", 0), ("3 4", 0), ("", 0), (" ", 0), ("0 ", 0), (" 0", 0),
            ("0  0", 0), ("00", 0), ("01", 0), ("0 -", 0), ("- -", 0), ("-1", 0), ("+1", 0), ("0\n", 1), ("0\n0", 1),
            ("-\n", 1), ("-\n-", 1), ("\n0", 0), ("4\n0", 0), ("0\t1", 0), ("000000", 0), ("1000000", 0), ("a", 0),
            ("?", 0), ("1,2", 0), ("0 1 2 3\n\n", 1),
        ):
            self.assertTrue(same(self.check(parse_code, (SMALL, text), expected), expected))

    def test_any_value(self):
        for value in any_values():
            self.check(parse_code, (SMALL, value), plain_parse_code(SMALL, value))

    def test_arguments_by_name(self):
        self.assertEqual(parse_code(text="1 2", instruction_set=SMALL), (1, 2))


class TestInstructionSets(FormatTest):
    def test_format(self):
        self.assertEqual(format_instruction_set(SMALL), SMALL_TEXT)
        self.assertEqual(format_instruction_set(instruction_set=WIDE),
                         "bytes 8\n0 two 2 padding\n1 three 3 padding\n2 add 3")

    def test_parsed_back(self):
        for instruction_set in every_set():
            self.check(parse_instruction_set, (format_instruction_set(instruction_set),), instruction_set)

    def test_instructions_called_like_words_of_the_format(self):
        for rows in (((0, "padding", 1, True), (1, "bytes", 2, False)), ((0, "padding", 3, False),)):
            instruction_set = InstructionSet(2, rows)
            self.check(parse_instruction_set, (format_instruction_set(instruction_set),), instruction_set)

    def test_changed(self):
        source = random.Random(11)
        seen = set()
        for name in ("small", "wide", "no padding", "one byte", "even", "few of many"):
            text = format_instruction_set(InstructionSet(*SETS[name]))
            for changed in changed_texts(text, source, 700):
                expected = plain_parse_instruction_set(changed)
                self.check(parse_instruction_set, (changed,), expected)
                lines = len(changed.split("\n"))
                seen.add("set" if type(expected) is not int else "value" if expected == lines else expected)
        self.assertLessEqual({"set", "value", 0, 1, 2, 3, 4}, seen)

    def test_known_ones(self):
        for text, expected in (
            ("bytes 4", 1), ("bytes 4\n", 1), ("bytes 4\n\n0 a 1", 1), ("", 0), ("bytes", 0), ("bytes ", 0),
            ("bytes  4", 0),
            ("bytes 04\n0 a 1", 0), ("Bytes 4\n0 a 1", 0), ("bytes 4 \n0 a 1", 0), ("bytes 1000000\n0 a 1", 0),
            ("bytes 999999\n0 a 1", 2), ("bytes 257\n0 a 1", 2), ("bytes 1\n0 a 1", 2), ("bytes 0\n0 a 1", 2),
            ("bytes 4\n4 a 1", 2), ("bytes 4\n3 a 13", 2), ("bytes 4\n3 a 0", 2), ("bytes 4\n3 a 1234567", 1),
            ("bytes 4\n3 a 12\n2 b 1", 3), ("bytes 4\n3 a 12\n3 b 1", 3), ("bytes 4\n2 a 12\n3 a 1", 3),
            ("bytes 4\n2 a 12\n3 a 1\n", 3), ("bytes 4\n2 a 1 paddin", 1), ("bytes 4\n2 a 1 padding ", 1),
            ("bytes 4\n2 a 1 padding padding", 1), ("bytes 4\n2 a 1  padding", 1), ("bytes 4\n2 a", 1),
            ("bytes 4\n2 a padding", 1), ("bytes 4\n2 abcdefghi 1", 1), ("bytes 4\n2 A 1", 1), ("bytes 4\n2 a1 1", 1),
            ("bytes 4\n02 a 1", 1), ("bytes 4\n2 a 01", 1), ("bytes 4\n2 a -1", 1), ("bytes 4\n-2 a 1", 1),
            ("bytes 4\n2 a 1\n\n3 b 1", 2), ("bytes 4\n9 a 1\n3 b", 2), ("-", 0), ("\nbytes 4\n2 a 1", 0),
            ("bytes 4\n2  1", 1), ("bytes 4\n2 a 1\nbytes 4", 2), ("bytes 4\n2 ? 1", 1),
            ("bytes 4\n2 a 1", InstructionSet(4, ((2, "a", 1, False),))),
            ("bytes 256\n255 abcdefgh 12 padding", InstructionSet(256, ((255, "abcdefgh", 12, True),))),
            ("bytes 2\n0 a 1", InstructionSet(2, ((0, "a", 1, False),))),
        ):
            self.check(parse_instruction_set, (text,), expected)

    def test_any_value(self):
        for value in any_values():
            self.check(parse_instruction_set, (value,), plain_parse_instruction_set(value))

    def test_arguments_by_name(self):
        self.assertEqual(parse_instruction_set(text=SMALL_TEXT), SMALL)


class TestPrograms(FormatTest):
    def test_format(self):
        self.assertEqual(format_program(()), "-")
        self.assertEqual(format_program((("halt", ()),)), "halt")
        self.assertEqual(format_program((("load", (3,)), ("halt", ()), ("load", (None,)))), "load 3\nhalt\nload ?")
        self.assertEqual(format_program(program=(("add", (None, 7)),)), "add ? 7")

    def test_parsed_back(self):
        source = random.Random(21)
        for instruction_set in every_set():
            for many in (0, 1, 2, 5, 12):
                program = random_program(source, instruction_set, many)
                lines = [" ".join([name, *["?" if item is None else str(item) for item in operands]])
                         for name, operands in program]
                text = format_program(program)
                self.assertEqual(text, "\n".join(lines) or "-")
                self.check(parse_program, (instruction_set, text), program)

    def test_changed(self):
        source = random.Random(22)
        seen = set()
        for instruction_set in every_set():
            for many in (0, 1, 2, 4):
                text = format_program(random_program(source, instruction_set, many))
                for changed in changed_texts(text, source):
                    expected = plain_parse_program(instruction_set, changed)
                    self.check(parse_program, (instruction_set, changed), expected)
                    seen.add(expected if type(expected) is int else "program")
        self.assertLessEqual({"program", 0, 1, 2, 3, 4}, seen)

    def test_known_ones(self):
        for text, expected in (
            ("-", ()), ("halt", (("halt", ()),)), ("load ?\nload 0", (("load", (None,)), ("load", (0,)))),
            ("load 4", 0), ("load", 0), ("load 1 1", 0), ("load -", 0), ("load 01", 0), ("load  1", 0), ("halt ", 0),
            (" halt", 0), ("nop", 0), ("skip 0", 0), ("halt\nnop", 1), ("-\nhalt", 0), ("halt\n-", 1), ("-\n-", 0),
            ("halt\n", 1), ("halt\n\nhalt", 1), ("", 0), ("\n", 0), ("\nhalt", 0), ("Halt", 0), ("hal", 0),
            ("load ??", 0),
            ("load 1000000", 0), ("\n".join(["halt"] * 12), (("halt", ()),) * 12), ("\n".join(["halt"] * 13), 13),
            ("\n".join(["halt"] * 40), 40), ("\n".join(["halt"] * 40 + ["nop"]), 40), ("- ", 0), ("halt / halt", 0),
        ):
            self.check(parse_program, (SMALL, text), expected)

    def test_any_value(self):
        for value in [*any_values(), "halt", ["halt"], ("halt",), (("halt", ()),)]:
            self.check(parse_program, (SMALL, value), plain_parse_program(SMALL, value))

    def test_arguments_by_name(self):
        self.assertEqual(parse_program(text="halt", instruction_set=SMALL), (("halt", ()),))


class TestListing(unittest.TestCase):
    def plain_listing(self, instructions, code, entries):
        names = {opcode: name for opcode, name, length, is_padding in instructions}
        lines = []
        for offset, byte in enumerate(code):
            parts = [str(offset), str(byte)]
            for entry in entries:
                countdowns, begun, read, ending = go_along(instructions, code, entry)
                if offset in begun:
                    parts.append(names[byte])
                elif ending == ("stopped", offset):
                    parts.append("!")
                elif countdowns.get(offset) is None:
                    parts.append(".")
                else:
                    parts.append("+")
            lines.append(" ".join(parts))
        return "\n".join(lines) or "-"

    def test_example(self):
        self.assertEqual(format_listing(SMALL, (2, 3, 1), (0, 1)), "0 2 load .\n1 3 + halt\n2 1 skip skip")

    def test_against_going_along(self):
        source = random.Random(31)
        marks = set()
        for instruction_set in every_set():
            for size in (0, 1, 2, 6, 14):
                code = random_code(source, instruction_set.byte_count, instruction_set.instructions, size)
                for many in (0, 1, 2, 5):
                    entries = tuple(source.randint(0, size) for place in range(many))
                    text = format_listing(instruction_set, code, entries)
                    self.assertEqual(text, self.plain_listing(instruction_set.instructions, code, entries))
                    marks |= set(text.split())
                entries = (*range(size + 1), size, 0)
                self.assertEqual(format_listing(instruction_set, code, entries),
                                 self.plain_listing(instruction_set.instructions, code, entries))
        self.assertLessEqual({"+", "!", ".", "load", "nop"}, marks)

    def test_known_ones(self):
        self.assertEqual(format_listing(SMALL, (), (0,)), "-")
        self.assertEqual(format_listing(SMALL, (), ()), "-")
        self.assertEqual(format_listing(SMALL, (), (0, 0)), "-")
        self.assertEqual(format_listing(SMALL, (2, 3), ()), "0 2\n1 3")
        self.assertEqual(format_listing(SMALL, (2, 3), (2, 1, 2, 0)), "0 2 . . . load\n1 3 . halt . +")
        self.assertEqual(format_listing(WIDE, (0, 1, 7, 0, 0), (0, 1, 2, 3, 5)),
                         "0 0 two . . . .\n1 1 + three . . .\n2 7 ! + ! . .\n3 0 . + . two .\n4 0 . two . + .")

    def test_long_code(self):
        code = (2, 1) * 20000
        lines = format_listing(SMALL, code, (0, 1)).split("\n")
        self.assertEqual(lines[:4], ["0 2 load .", "1 1 + skip", "2 2 load +", "3 1 + skip"])
        self.assertEqual(len(lines), 40000)

    def test_arguments_by_name(self):
        self.assertEqual(format_listing(entries=(0,), code=(3,), instruction_set=SMALL), "0 3 halt")


if __name__ == "__main__":
    unittest.main()
