import random
import unittest

from overlapcode.buffers import CodeBuffer
from overlapcode.errors import InvalidOffset, NothingToUndo
from overlapcode.instructions import InstructionSet
from overlapcode.maps import code_map, compose_maps, identity_map, repeat_map
from tests.long_rows import LongRow
from tests.plain import go_along
from tests.samples import SETS, random_code, same

SMALL = InstructionSet(*SETS["small"])
WIDE = InstructionSet(*SETS["wide"])


class LongBuffer:
    """A buffer led beside a long row, with (row before, start, old stop, new stop) for each edit."""

    def __init__(self, instruction_set, code=()):
        self.instruction_set = instruction_set
        self.buffer = CodeBuffer(instruction_set, code)
        self.row = LongRow(instruction_set.instructions, [(code, len(code))])
        self.edits = []

    def put(self, row, start, stop):
        self.edits.append((self.row, start, stop, stop + row.size() - self.row.size()))
        self.row = row

    def replace(self, start, stop, code):
        self.buffer.replace(start, stop, code)
        self.put(self.row.replaced(start, stop, [(code, len(code))]), start, stop)

    def insert(self, offset, code):
        self.buffer.insert(offset, code)
        self.put(self.row.replaced(offset, offset, [(code, len(code))]), offset, offset)

    def delete(self, start, stop):
        self.buffer.delete(start, stop)
        self.put(self.row.replaced(start, stop, []), start, stop)

    def repeat(self, start, stop, times):
        self.buffer.repeat(start, stop, times)
        self.put(self.row.repeated(start, stop, times), start, stop)

    def undo(self):
        self.buffer.undo()
        self.row = self.edits.pop()[0]

    def random_offset(self, source, least=0):
        """An offset near an end, near a border of runs, or anywhere."""
        size = self.row.size()
        borders = [least, size]
        at = 0
        for unit, many in self.row.runs:
            at += many
            borders.append(at)
        offset = source.choice(borders) + source.randint(-40, 40)
        if source.random() < 0.4:
            offset = source.randint(least, size)
        return min(max(offset, least), size)

    def random_edit(self, source):
        """Make an edit that cuts copies, or repeats a short part so often that the buffer stays below the limit."""
        size = self.row.size()
        start = self.random_offset(source)
        kind = source.choice(("replace", "insert", "delete", "short repeat", "long repeat", "long repeat"))
        code = random_code(source, self.instruction_set.byte_count, self.instruction_set.instructions,
                           source.choice((0, 1, 2, 3, 5, 9, 17)))
        stop = min(start + source.choice((0, 1, 2, 7, 30)), size)
        if kind == "replace":
            self.replace(start, stop, code)
        elif kind == "insert":
            self.insert(start, code)
        elif kind == "delete":
            self.delete(start, min(self.random_offset(source, start), start + size // 10))
        elif kind == "short repeat":
            stop = self.random_offset(source, start)
            if (stop - start) * 2 + size <= 10 ** 15 and len(self.row.runs) < 40:
                self.repeat(start, stop, source.randint(0, 3) if stop - start < size // 2 else 1)
        elif start < stop:
            most = (10 ** 15 - size) // (stop - start) + 1
            self.repeat(start, stop, source.choice((most // 2, most // 10 ** 4, source.randint(0, 1000))))


class LongTest(unittest.TestCase):
    def check_row(self, led, source):
        buffer, row = led.buffer, led.row
        size = row.size()
        self.assertTrue(same(buffer.length(), size))
        for trial in range(3):
            start = led.random_offset(source)
            stop = min(start + source.randint(0, 200), size)
            self.assertTrue(same(buffer.code(start, stop), row.slice(start, stop).bytes()))

    def check_queries(self, led, source, trials=4):
        buffer, row = led.buffer, led.row
        size = row.size()
        for trial in range(trials):
            entry = led.random_offset(source)
            start = led.random_offset(source, entry)
            stop = led.random_offset(source, start)
            self.assertTrue(same(buffer.countdown(entry, stop), row.countdown(entry, stop)))
            whole = row.start_count(entry, start, stop)
            self.assertTrue(same(buffer.start_count(entry, start, stop), whole))
            middle = (start + stop) // 2
            parts = buffer.start_count(entry, start, middle), buffer.start_count(entry, middle, stop)
            self.assertEqual(sum(parts), whole)
            other = led.random_offset(source)
            self.assertTrue(same(buffer.agreement(entry, other), row.agreement(entry, other)), (entry, other))
            self.assertTrue(same(buffer.agreement(other, entry), row.agreement(entry, other)), (entry, other))
            near = min(max(entry + source.randint(-12, 12), 0), size)
            self.assertTrue(same(buffer.agreement(entry, near), row.agreement(entry, near)), (entry, near))
            self.check_nth(led, entry, source)

    def check_nth(self, led, entry, source):
        """Starts by their numbers: the countdown is 0 there, and so many starts stand in front."""
        buffer, row = led.buffer, led.row
        total = row.start_count(entry, entry, row.size())
        self.assertIsNone(buffer.nth_start(entry, total))
        self.assertIsNone(buffer.nth_start(entry, 10 ** 30))
        for number in (0, total - 1, total // 2, source.randrange(total + 1)):
            if 0 <= number < total:
                offset = buffer.nth_start(entry, number)
                self.assertIs(type(offset), int)
                self.assertEqual(row.countdown(entry, offset), 0)
                self.assertEqual(row.start_count(entry, entry, offset), number)
                self.assertEqual(row.start_count(entry, offset, offset + 1), 1)

    def check_after_edit(self, led, source):
        before, start, old_stop, new_stop = led.edits[-1]
        for entry in {0, start, max(start - 1, 0), max(start - 13, 0), source.randint(0, start)}:
            old = before.countdown(entry, old_stop)
            new = led.row.countdown(entry, new_stop)
            found = led.row.slice(new_stop, led.row.size()).meeting(old, new)
            expected = None if found is None else new_stop + found
            self.assertTrue(same(led.buffer.agreement_after_edit(entry), expected), (entry, start, old_stop, new_stop))
        with self.assertRaises(InvalidOffset):
            led.buffer.agreement_after_edit(start + 1)


class TestLongRows(unittest.TestCase):
    """The rows themselves, where they are short enough for plain decoding."""

    def test_against_plain_decoding(self):
        source = random.Random(1)
        for byte_count, instructions in SETS.values():
            for trial in range(4):
                runs = []
                for run in range(source.randint(1, 3)):
                    unit = random_code(source, byte_count, instructions, source.randint(1, 4))
                    runs.append((unit, source.randint(1, 40)))
                row = LongRow(instructions, runs)
                code = row.bytes()
                self.assertEqual(len(code), row.size())
                for entry in range(0, len(code) + 1, 3):
                    countdowns, begun, read, ending = go_along(instructions, code, entry)
                    self.assertEqual(row.countdown(entry, len(code)), countdowns[len(code)])
                    self.assertEqual(row.start_count(entry, entry, len(code)), len(begun))
                    other = source.randint(0, len(code))
                    others = go_along(instructions, code, other)[0]
                    equal = [offset for offset in range(max(entry, other), len(code) + 1)
                             if countdowns[offset] is not None and countdowns[offset] == others[offset]]
                    self.assertEqual(row.agreement(entry, other), min(equal, default=None))


class TestEditedLongBuffers(LongTest):
    def test_rows_of_edits(self):
        source = random.Random(11)
        longest = 0
        for name, (byte_count, instructions) in SETS.items():
            instruction_set = InstructionSet(byte_count, instructions)
            for row in range(2):
                led = LongBuffer(instruction_set, random_code(source, byte_count, instructions, 9))
                for step in range(14):
                    led.random_edit(source)
                    longest = max(longest, led.row.size())
                    self.check_row(led, source)
                    if led.edits:
                        self.check_after_edit(led, source)
                    if step % 3 == 2:
                        self.check_queries(led, source, 2)
        self.assertGreater(longest, 9 * 10 ** 14)

    def test_undo_back_through_all(self):
        source = random.Random(12)
        for name in ("small", "wide", "all", "no padding", "few of many"):
            led = LongBuffer(InstructionSet(*SETS[name]), random_code(source, *SETS[name], 5))
            for step in range(25):
                led.random_edit(source)
            while led.edits:
                self.check_after_edit(led, source)
                led.undo()
                self.check_row(led, source)
                self.check_queries(led, source, 1)
            with self.assertRaises(NothingToUndo):
                led.buffer.undo()

    def test_two_hundred_edits(self):
        source = random.Random(13)
        buffer = CodeBuffer(SMALL, (1, 2, 0, 3, 1))
        size = 5
        sizes = []
        for edit in range(200):
            sizes.append(size)
            start, stop = sorted(source.randint(0, size) for place in range(2))
            if size < 10 ** 13:
                buffer.repeat(start, stop, 7)
                size += 6 * (stop - start)
            else:
                start, stop = min(start, size // 3), max(stop, size // 3 * 2)
                buffer.replace(start, stop, (1, 3))
                size += 2 - (stop - start)
            self.assertEqual(buffer.length(), size)
        middle = size // 2
        counts = [buffer.start_count(0, 0, middle), buffer.start_count(0, middle, size)]
        self.assertEqual(sum(counts), buffer.start_count(0, 0, size))
        self.assertEqual(buffer.start_count(0, 0, buffer.nth_start(0, counts[0])), counts[0])
        for expected in sizes[::-1]:
            buffer.undo()
            self.assertEqual(buffer.length(), expected)
        self.assertEqual(buffer.code(0, 5), (1, 2, 0, 3, 1))

    def test_copies_of_copies(self):
        """Each edit doubles the buffer and cuts a copy, so that copies stand within copies."""
        source = random.Random(14)
        for name in ("small", "wide", "longest is load", "zero is load"):
            instruction_set = InstructionSet(*SETS[name])
            buffer = CodeBuffer(instruction_set, random_code(source, *SETS[name], 4))
            code = buffer.code(0, 4)
            while len(code) < 3000:
                size = len(code)
                buffer.repeat(0, size, 2)
                code *= 2
                at = source.randint(0, 2 * size)
                new = random_code(source, *SETS[name], 1)
                buffer.insert(at, new)
                code = code[:at] + new + code[at:]
            self.assertEqual(buffer.code(0, len(code)), code)
            for entry in (0, 1, 5, len(code) // 2, len(code) - 20):
                countdowns, begun, read, ending = go_along(instruction_set.instructions, code, entry)
                for offset in [*range(entry, len(code) + 1, 97), len(code)]:
                    self.assertTrue(same(buffer.countdown(entry, offset), countdowns[offset]))
                    self.assertEqual(buffer.start_count(entry, entry, offset), len([at for at in begun if at < offset]))
                for number in range(0, len(begun), 101):
                    self.assertEqual(buffer.nth_start(entry, number), begun[number])
            while buffer.length() <= 4 * 10 ** 14:
                buffer.repeat(0, buffer.length(), 2)
            self.assertEqual(buffer.code(len(code) * 5, len(code) * 6), code)


class TestManyCopies(LongTest):
    def test_against_repeated_maps(self):
        source = random.Random(21)
        for byte_count, instructions in SETS.values():
            instruction_set = InstructionSet(byte_count, instructions)
            parts = [random_code(source, byte_count, instructions, source.randint(1, 20)) for part in range(3)]
            times = [source.randint(1, 10 ** 13) for part in parts]
            buffer = CodeBuffer(instruction_set)
            summary = identity_map(instruction_set)
            for code, many in zip(parts, times):
                end = buffer.length()
                buffer.insert(end, code)
                buffer.repeat(end, end + len(code), many)
                summary = compose_maps(summary, repeat_map(code_map(instruction_set, code), many))
            size = sum(len(code) * many for code, many in zip(parts, times))
            self.assertEqual(buffer.length(), size)
            answer = buffer.countdown(0, size), buffer.start_count(0, 0, size)
            self.assertTrue(same(answer, summary[0]))

    def test_to_the_limit(self):
        source = random.Random(22)
        for name in ("small", "wide", "even", "no padding", "longest", "all"):
            byte_count, instructions = SETS[name]
            instruction_set = InstructionSet(byte_count, instructions)
            for size in (1, 2, 4, 5, 8, 10):
                unit = random_code(source, byte_count, instructions, size)
                led = LongBuffer(instruction_set, unit)
                led.repeat(0, size, 10 ** 15 // size)
                self.assertEqual(led.buffer.length(), 10 ** 15)
                self.check_row(led, source)
                self.check_queries(led, source, 3)
                self.check_after_edit(led, source)

    def test_decoders_that_never_agree(self):
        buffer = CodeBuffer(SMALL, (1,))
        buffer.repeat(0, 1, 10 ** 15)
        self.assertIsNone(buffer.agreement(0, 1))
        self.assertEqual(buffer.agreement(0, 2), 2)
        self.assertEqual(buffer.agreement(1, 10 ** 15 - 1), 10 ** 15 - 1)
        self.assertIsNone(buffer.agreement(0, 10 ** 15 - 1))
        self.assertEqual(buffer.countdown(0, 10 ** 15 - 1), 1)
        buffer.replace(10 ** 15 - 1, 10 ** 15, (0,))
        self.assertEqual(buffer.agreement(0, 1), 10 ** 15)
        self.assertEqual(buffer.nth_start(1, 5 * 10 ** 14 - 1), 10 ** 15 - 1)
        self.assertIsNone(buffer.nth_start(1, 5 * 10 ** 14))

    def test_edit_at_the_start_of_a_long_buffer(self):
        buffer = CodeBuffer(SMALL, (1, 1, 1, 3))
        buffer.repeat(0, 2, 10 ** 14)
        buffer.insert(0, (0,))
        # The bytes in front of the last one are read in pairs, now from the other one on.
        self.assertEqual(buffer.agreement_after_edit(0), 1)
        buffer.undo()
        buffer.insert(0, (1,))
        size = buffer.length()
        self.assertEqual(buffer.agreement_after_edit(0), size)
        buffer.delete(1, 2)
        self.assertEqual(buffer.agreement_after_edit(0), size - 1)
        self.assertEqual(buffer.agreement_after_edit(1), size - 1)
        buffer.undo()
        self.assertEqual(buffer.agreement_after_edit(0), size)

    def test_a_byte_that_stops_far_away(self):
        buffer = CodeBuffer(WIDE, (0, 0, 7, 0))
        buffer.repeat(0, 2, 4 * 10 ** 14)
        far = 8 * 10 ** 14
        self.assertEqual([buffer.countdown(0, at) for at in (far - 1, far, far + 1)], [1, 0, None])
        self.assertEqual([buffer.countdown(1, at) for at in (far - 1, far, far + 1, far + 2)], [0, 1, 0, 1])
        self.assertIsNone(buffer.agreement(0, 1))
        self.assertEqual(buffer.start_count(0, 0, far + 2), far // 2)
        self.assertIsNone(buffer.nth_start(0, far // 2))
        self.assertEqual(buffer.nth_start(1, far // 2), far + 1)


if __name__ == "__main__":
    unittest.main()
