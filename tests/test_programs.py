import random
import unittest

from overlapcode.errors import InvalidEntry, InvalidProgram, OverlapError
from overlapcode.instructions import InstructionSet
from overlapcode.programs import executed, is_program, runs
from tests.plain import plain_executed, plain_is_program, plain_runs
from tests.samples import SETS, any_values, random_code, random_program, same

SMALL = InstructionSet(*SETS["small"])
WIDE = InstructionSet(*SETS["wide"])


def every_set():
    return [InstructionSet(*row) for row in SETS.values()]


def with_item(row, at, item):
    """The tuple with another item at this place."""
    return (*row[:at], item, *row[at + 1:])


def changed_programs(instruction_set, program):
    """The program with a part changed at any depth, mostly no program then."""
    names = [item[1] for item in instruction_set.instructions]
    strange = [None, True, 0, "", "x", [], {}, (), ("x", ()), names[0]]
    for value in strange:
        yield (*program, value)
        for at, (name, operands) in enumerate(program):
            yield with_item(program, at, value)
            yield with_item(program, at, (value, operands))
            yield with_item(program, at, (name, value))
            yield with_item(program, at, (name, operands, value))
            yield with_item(program, at, (name, (*operands, value)))
            for place in range(len(operands)):
                yield with_item(program, at, (name, with_item(operands, place, value)))
    for at, (name, operands) in enumerate(program):
        yield with_item(program, at, (name,))
        yield with_item(program, at, [name, operands])
        yield with_item(program, at, (name, list(operands)))
        yield with_item(program, at, (name.upper(), operands))
        yield with_item(program, at, (name, operands[1:]))
        for other in names:
            yield with_item(program, at, (other, operands))
        for place in range(len(operands)):
            for byte in (-1, 0, instruction_set.byte_count - 1, instruction_set.byte_count, True, False, "0", (0,)):
                yield with_item(program, at, (name, with_item(operands, place, byte)))
    yield list(program)
    yield {step[0]: step[1] for step in program}


class TestIsProgram(unittest.TestCase):
    def check(self, instruction_set, value):
        before = repr(value)
        expected = plain_is_program(instruction_set.byte_count, instruction_set.instructions, value)
        self.assertIs(is_program(instruction_set, value), expected, value)
        self.assertEqual(repr(value), before)
        return expected

    def test_none_to_thirteen_steps(self):
        source = random.Random(1)
        for instruction_set in every_set():
            for many in range(14):
                program = random_program(source, instruction_set, many)
                if len(program) == many:
                    self.assertIs(self.check(instruction_set, program), many <= 12)

    def test_thirteen_steps(self):
        step = ("halt", ())
        self.assertIs(is_program(SMALL, (step,) * 12), True)
        self.assertIs(is_program(SMALL, (step,) * 13), False)
        self.assertIs(is_program(SMALL, (step,) * 100), False)

    def test_a_part_changed(self):
        source = random.Random(2)
        for instruction_set in every_set():
            for many in (0, 1, 2, 4):
                program = random_program(source, instruction_set, many)
                answers = {self.check(instruction_set, value) for value in changed_programs(instruction_set, program)}
                self.assertIn(False, answers)

    def test_padding_is_no_step(self):
        self.assertIs(is_program(SMALL, (("nop", ()),)), False)
        self.assertIs(is_program(SMALL, (("skip", (0,)),)), False)
        self.assertIs(is_program(SMALL, (("halt", ()), ("nop", ()))), False)
        self.assertIs(is_program(SMALL, (("load", (0,)), ("halt", ()))), True)

    def test_operands(self):
        for operand, expected in ((None, True), (0, True), (3, True), (4, False), (-1, False), (True, False),
                                  (False, False), ("0", False), ((0,), False), ([], False), ({}, False)):
            self.assertIs(is_program(SMALL, (("load", (operand,)),)), expected, operand)
        self.assertIs(is_program(WIDE, (("add", (None, 7)),)), True)
        self.assertIs(is_program(WIDE, (("add", (None,)),)), False)
        self.assertIs(is_program(WIDE, (("add", (1, 2, 3)),)), False)

    def test_any_value(self):
        for instruction_set in every_set():
            for value in any_values():
                self.check(instruction_set, value)
                self.check(instruction_set, (value,))
                self.check(instruction_set, ((value, value),))
                self.check(instruction_set, ((instruction_set.instructions[-1][1], value),))
                self.check(instruction_set, ((instruction_set.instructions[-1][1], (value,)),))

    def test_arguments_by_name(self):
        self.assertIs(is_program(value=(), instruction_set=SMALL), True)


class TestExecuted(unittest.TestCase):
    def test_examples(self):
        self.assertTrue(same(executed(SMALL, (0, 2, 3, 3), 0), (("load", (3,)), ("halt", ()))))
        self.assertIs(runs(SMALL, (2, 3, 3), 1, (("halt", ()), ("halt", ()))), True)

    def test_against_going_along(self):
        source = random.Random(11)
        seen = set()
        for instruction_set in every_set():
            for size in range(31):
                code = random_code(source, instruction_set.byte_count, instruction_set.instructions, size)
                for entry in range(size + 1):
                    expected = plain_executed(instruction_set.instructions, code, entry)
                    self.assertTrue(same(executed(instruction_set, code, entry), expected), (code, entry))
                    seen.add(expected if expected is None else len(expected))
        self.assertTrue({None, 0, 1, 5, 15} <= seen)

    def test_endings(self):
        self.assertTrue(same(executed(WIDE, (), 0), ()))
        self.assertTrue(same(executed(WIDE, (0, 0)), ()))
        self.assertIsNone(executed(WIDE, (2, 0)))
        self.assertIsNone(executed(WIDE, (2, 0, 0, 7)))
        self.assertTrue(same(executed(WIDE, (2, 0, 7), 3), ()))
        self.assertTrue(same(executed(WIDE, (0, 7, 2, 6, 7)), (("add", (6, 7)),)))

    def test_more_than_twelve_steps(self):
        self.assertEqual(executed(SMALL, (3,) * 40), (("halt", ()),) * 40)

    def test_long_code(self):
        source = random.Random(12)
        code = tuple(source.choice((0, 1, 2, 3)) for place in range(30000))
        for entry in (0, 1, 2, 15000):
            self.assertEqual(executed(SMALL, code, entry), plain_executed(SMALL.instructions, code, entry))
        program = (("halt", ()),) * 12
        self.assertIs(runs(SMALL, (3,) * 12 + (0,) * 30000, 0, program), True)
        self.assertIs(runs(SMALL, (3,) * 30000, 0, program), False)

    def test_entries_of_every_kind(self):
        for code in ((), (1, 2, 3)):
            for value in [*any_values(), len(code) + 1, -1]:
                if type(value) is int and 0 <= value <= len(code):
                    executed(SMALL, code, value)
                    continue
                with self.assertRaises(OverlapError, msg=value) as caught:
                    executed(SMALL, code, value)
                self.assertIs(type(caught.exception), InvalidEntry)
                self.assertIs(caught.exception.value, value)

    def test_arguments_by_name(self):
        self.assertEqual(executed(entry=1, code=(2, 3, 3), instruction_set=SMALL), (("halt", ()), ("halt", ())))
        program = (("halt", ()),)
        self.assertIs(runs(program=program, entry=1, code=(3, 3), instruction_set=SMALL), True)


class TestRuns(unittest.TestCase):
    def check(self, instruction_set, code, entry, program):
        expected = plain_runs(instruction_set.instructions, code, entry, program)
        self.assertIs(runs(instruction_set, code, entry, program), expected, (code, entry, program))
        return expected

    def test_programs_read_from_codes(self):
        source = random.Random(21)
        answers = {"same": set(), "open": set(), "changed": set()}
        for instruction_set in every_set():
            for size in [*range(13), 20, 30]:
                code = random_code(source, instruction_set.byte_count, instruction_set.instructions, size)
                for entry in range(size + 1):
                    steps = plain_executed(instruction_set.instructions, code, entry)
                    if steps is None or len(steps) > 12:
                        self.assertIs(runs(instruction_set, code, entry, ()), False)
                        continue
                    answers["same"].add(self.check(instruction_set, code, entry, steps))
                    opened = tuple((name, tuple(byte if source.random() < 0.5 else None for byte in operands))
                                   for name, operands in steps)
                    answers["open"].add(self.check(instruction_set, code, entry, opened))
                    for program in changed_programs(instruction_set, steps[-3:]):
                        program = (*steps[:-3], *program) if type(program) is tuple else program
                        if plain_is_program(instruction_set.byte_count, instruction_set.instructions, program):
                            answers["changed"].add(self.check(instruction_set, code, entry, program))
        self.assertEqual(answers, {"same": {True}, "open": {True}, "changed": {True, False}})

    def test_steps_left_out_or_added(self):
        code = (2, 1, 3, 0, 3, 2, 2)
        program = (("load", (1,)), ("halt", ()), ("halt", ()), ("load", (2,)))
        self.assertIs(runs(SMALL, code, 0, program), True)
        for at in range(4):
            self.assertIs(self.check(SMALL, code, 0, program[:at] + program[at + 1:]), False)
            self.assertIs(self.check(SMALL, code, 0, program[:at] + (("halt", ()),) + program[at:]), False)
        self.assertIs(self.check(SMALL, code, 0, program[::-1]), False)
        self.assertIs(self.check(SMALL, code, 0, ()), False)

    def test_operands(self):
        for operand, expected in ((None, True), (1, True), (0, False), (2, False)):
            self.assertIs(runs(SMALL, (2, 1, 0), 0, (("load", (operand,)),)), expected)
        for operands, expected in (((4, 5), True), ((None, 5), True), ((4, None), True), ((5, 4), False),
                                   ((None, 4), False), ((5, None), False), ((None, None), True)):
            self.assertIs(runs(WIDE, (2, 4, 5), 0, (("add", operands),)), expected)

    def test_decoders_that_are_not_complete(self):
        self.assertIs(runs(WIDE, (2, 0), 0, ()), False)
        self.assertIs(runs(WIDE, (2, 0), 0, (("add", (0, None)),)), False)
        self.assertIs(runs(WIDE, (2, 0, 0, 7), 0, (("add", (0, 0)),)), False)
        self.assertIs(runs(WIDE, (2, 0), 2, ()), True)

    def test_errors(self):
        entries = [*any_values(), 3, 4, -1]
        programs = [*any_values(), (("nop", ()),), (("halt", ()),), (("halt", ()),) * 13, [("halt", ())],
                    (("halt", ()), ("load", (4,))), (("load", (True,)),)]
        for entry in entries:
            for program in programs:
                before = repr((entry, program))
                expected = None
                if not (type(entry) is int and 0 <= entry <= 3):
                    expected = InvalidEntry, entry
                elif not plain_is_program(4, SMALL.instructions, program):
                    expected = InvalidProgram, program
                if expected is None:
                    self.check(SMALL, (2, 3, 3), entry, program)
                    continue
                with self.assertRaises(OverlapError, msg=(entry, program)) as caught:
                    runs(SMALL, (2, 3, 3), entry, program)
                self.assertIs(type(caught.exception), expected[0], (entry, program))
                self.assertIs(caught.exception.value, expected[1])
                self.assertEqual(repr((entry, program)), before)


if __name__ == "__main__":
    unittest.main()
