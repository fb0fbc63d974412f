"""What the document promises over the whole program: fillers, overlays, edits and texts together."""

import itertools
import random
import unittest

from overlapcode.buffers import CodeBuffer
from overlapcode.counting import overlay_count, overlay_number
from overlapcode.distances import distance_table, is_distance_table
from overlapcode.fillers import conflict, filler, filler_lengths, is_filler
from overlapcode.formats import (format_code, format_instruction_set, format_program, parse_code, parse_instruction_set,
                                 parse_program)
from overlapcode.instructions import InstructionSet
from overlapcode.maps import code_map, compose_maps, is_synchronized
from overlapcode.overlays import is_overlay, overlay, overlay_length
from overlapcode.programs import executed, runs
from overlapcode.session import Session
from tests.overlay_cases import read_cases, small_sets
from tests.plain import plain_state_count
from tests.samples import SETS, random_code

NAMES = ("all", "few of many", "small", "longest is load", "wide", "nine and twelve", "lengths twice")


def every_set():
    return [InstructionSet(*row) for row in SETS.values()]


class TestFillersInBuffers(unittest.TestCase):
    def check_filler(self, instruction_set, buffer, entries):
        """Put a filler behind the buffer for the decoders from these entries; return whether there is one."""
        size = buffer.length()
        countdowns = {entry: buffer.countdown(entry, size) for entry in entries}
        going = [entry for entry in entries if countdowns[entry] is not None]
        wanted = tuple(sorted({countdowns[entry] for entry in going}))
        code = filler(instruction_set, wanted)
        self.assertEqual(code is None, conflict(instruction_set, wanted) is not None)
        if code is None:
            return False
        buffer.insert(size, code)
        end = size + len(code)
        for entry in going:
            self.assertEqual(buffer.countdown(entry, end), 0)
        for entry, other in itertools.combinations(going, 2):
            found = buffer.agreement(entry, other)
            self.assertIsNotNone(found)
            self.assertTrue(max(entry, other) <= found <= end)
        self.assertTrue(is_filler(instruction_set, wanted, buffer.code(size, end)))
        self.assertTrue(is_synchronized(code_map(instruction_set, code), wanted))
        return True

    def test_behind_short_codes(self):
        source = random.Random(1)
        answers = set()
        for instruction_set in every_set():
            for size in (0, 1, 5, 20, 40):
                code = random_code(source, instruction_set.byte_count, instruction_set.instructions, size)
                buffer = CodeBuffer(instruction_set, code)
                entries = sorted({source.randint(0, size) for place in range(8)})
                answers.add(self.check_filler(instruction_set, buffer, entries))
                if size <= 5:
                    answers.add(self.check_filler(instruction_set, buffer, range(size + 1)))
        self.assertEqual(answers, {True, False})

    def test_behind_long_buffers(self):
        source = random.Random(2)
        answers = set()
        for instruction_set in every_set():
            buffer = CodeBuffer(instruction_set)
            for part in range(3):
                size = source.randint(1, 9)
                code = random_code(source, instruction_set.byte_count, instruction_set.instructions, size)
                buffer.insert(0, code)
                buffer.repeat(0, size, source.randint(1, 3 * 10 ** 13))
            size = buffer.length()
            entries = [0, size, max(size - 3, 0), *[source.randint(0, size) for place in range(6)]]
            answers.add(self.check_filler(instruction_set, buffer, sorted(set(entries))))
        self.assertIn(True, answers)


class TestOverlaysInBuffers(unittest.TestCase):
    def test_inserted(self):
        source = random.Random(11)
        many = 0
        for instruction_set, programs, entries, read in read_cases(NAMES, 20, 12, 40):
            code = overlay(instruction_set, programs, entries)
            front = random_code(source, instruction_set.byte_count, instruction_set.instructions, source.randint(0, 9))
            buffer = CodeBuffer(instruction_set, front)
            at = source.randint(0, len(front))
            buffer.insert(at, code)
            part = buffer.code(at, at + len(code))
            for entry, program in zip(entries, programs):
                self.assertTrue(runs(instruction_set, part, entry, program))
                self.assertEqual(buffer.countdown(at + entry, at + len(code)), 0)
            buffer.delete(at + len(code), buffer.length())
            whole = buffer.code(0, buffer.length())
            for entry, program in zip(entries, programs):
                self.assertTrue(runs(instruction_set, whole, at + entry, program))
            for first, second in itertools.combinations(entries, 2):
                self.assertIsNotNone(buffer.agreement(at + first, at + second))
            many += 1
        self.assertGreater(many, 30)

    def test_padding_behind_an_overlay(self):
        for instruction_set, programs, entries, read in read_cases(NAMES, 16, 13, 40):
            code = overlay(instruction_set, programs, entries)
            for length in filler_lengths(instruction_set, (0,), 20):
                longer = code + filler(instruction_set, (0,), length)
                self.assertTrue(is_overlay(instruction_set, programs, entries, longer))
                self.assertIsNotNone(overlay_number(instruction_set, programs, entries, longer))
                self.assertGreater(overlay_count(instruction_set, programs, entries, len(longer)), 0)

    def test_padding_in_front_of_an_overlay(self):
        for instruction_set, programs, entries, read in read_cases(NAMES, 16, 14, 40):
            code = overlay(instruction_set, programs, entries)
            for length in filler_lengths(instruction_set, (0,), 12 - entries[-1]):
                later = (0, *[entry + length for entry in entries[1:]])
                longer = filler(instruction_set, (0,), length) + code
                if plain_state_count(instruction_set.instructions, programs, later) <= 5000:
                    self.assertTrue(is_overlay(instruction_set, programs, later, longer))
                    self.assertLessEqual(overlay_length(instruction_set, programs, later), len(longer))

    def test_filler_in_front_of_a_code_that_runs_one_program(self):
        """Behind a filler for the entries all decoders run what a single one runs."""
        for instruction_set, programs, entries, read in read_cases(NAMES, 16, 15, 40):
            longest = instruction_set.longest()
            wanted = tuple(range(min(longest, 3)))
            front = filler(instruction_set, wanted)
            if front is not None:
                code = front + overlay(instruction_set, programs[:1], (0,))
                for entry in wanted:
                    self.assertTrue(runs(instruction_set, code, entry, programs[0]))

    def test_empty_programs_are_fillers(self):
        for instruction_set in small_sets(2, 4):
            longest = instruction_set.longest()
            for many in range(1, min(longest, 3) + 1):
                for entries in itertools.combinations(range(longest), many):
                    if entries[0] == 0:
                        programs = ((),) * many
                        expected = filler(instruction_set, entries)
                        self.assertEqual(overlay(instruction_set, programs, entries), expected)
                        lengths = [length for length in range(15)
                                   if overlay_count(instruction_set, programs, entries, length) > 0]
                        self.assertEqual(tuple(lengths), filler_lengths(instruction_set, entries, 14))


class TestReturnedValuesPassedOn(unittest.TestCase):
    def test_texts_of_overlays(self):
        for instruction_set, programs, entries, read in read_cases(NAMES, 14, 21, 30):
            code = overlay(instruction_set, programs, entries)
            again = parse_instruction_set(format_instruction_set(instruction_set))
            self.assertEqual(again, instruction_set)
            self.assertEqual(parse_code(again, format_code(code)), code)
            texts = tuple(parse_program(again, format_program(program)) for program in programs)
            self.assertEqual(overlay(again, texts, entries), code)
            for entry in entries:
                steps = executed(instruction_set, code, entry)
                self.assertEqual(parse_program(instruction_set, format_program(steps)), steps)

    def test_tables(self):
        for instruction_set, programs, entries, read in read_cases(("small", "wide"), 10, 22, 20):
            table = distance_table(instruction_set, programs, entries)
            self.assertTrue(is_distance_table(instruction_set, programs, entries, table))

    def test_sessions(self):
        for instruction_set, programs, entries, read in read_cases(NAMES, 14, 23, 20):
            code = overlay(instruction_set, programs, entries)
            session = Session(format_instruction_set(instruction_set))
            session.run(f"insert 0 {format_code(code)}")
            self.assertEqual(session.run(f"show 0 {len(code)}"), format_code(code))
            for entry in entries:
                steps = executed(instruction_set, code, entry)
                self.assertEqual(session.run(f"run {entry}"), " / ".join(format_program(steps).split("\n")))

    def test_maps_of_parts(self):
        source = random.Random(24)
        for instruction_set in every_set():
            code = random_code(source, instruction_set.byte_count, instruction_set.instructions, 30)
            buffer = CodeBuffer(instruction_set, code)
            first, second = code_map(instruction_set, code[:13]), code_map(instruction_set, code[13:])
            countdown, begun = compose_maps(first, second)[0]
            self.assertEqual((buffer.countdown(0, 30), buffer.start_count(0, 0, 30)), (countdown, begun))


if __name__ == "__main__":
    unittest.main()
