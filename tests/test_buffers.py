import itertools
import random
import unittest

from overlapcode.buffers import CodeBuffer
from overlapcode.decoding import countdown_at, starts
from overlapcode.errors import InvalidCode, InvalidOffset, InvalidTimes, NothingToUndo, OverlapError
from overlapcode.instructions import InstructionSet
from tests.led import KINDS, LedBuffer
from tests.plain import go_along
from tests.samples import SETS, any_values, random_code, same

SMALL = InstructionSet(*SETS["small"])
WIDE = InstructionSet(*SETS["wide"])
METHODS = ("insert", "delete", "replace", "repeat", "undo", "length", "code", "countdown", "start_count", "nth_start",
           "agreement", "agreement_after_edit")


def every_set():
    return [InstructionSet(*row) for row in SETS.values()]


def is_offset(value, least, most):
    return type(value) is int and least <= value <= most


def is_plain_code(byte_count, value):
    return type(value) is tuple and all(type(byte) is int and 0 <= byte < byte_count for byte in value)


def offsets_around(size):
    """Valid offsets, integers just outside, and values of other kinds."""
    return [0, 1, size - 1, size, size + 1, -1, 10 ** 30, True, False, None, "0", (0,), [], [0], {}, {0: 0}, (), ""]


class BufferTest(unittest.TestCase):
    def check_code(self, led):
        buffer, code = led.buffer, led.code
        self.assertTrue(same(buffer.length(), len(code)))
        self.assertTrue(same(buffer.code(0, len(code)), code))

    def check_slices(self, led):
        for start, stop in itertools.combinations_with_replacement(range(len(led.code) + 1), 2):
            self.assertTrue(same(led.buffer.code(start, stop), led.code[start:stop]), (led.code, start, stop))

    def check_decoder(self, buffer, instruction_set, code, entry):
        """Compare countdowns and starts of the decoder from the entry with going along; return its countdowns."""
        countdowns, begun, read, ending = go_along(instruction_set.instructions, code, entry)
        for offset in range(entry, len(code) + 1):
            self.assertTrue(same(buffer.countdown(entry, offset), countdowns[offset]), (code, entry, offset))
        for number, offset in enumerate(begun):
            self.assertTrue(same(buffer.nth_start(entry, number), offset), (code, entry, number))
        for number in (len(begun), len(begun) + 1, 10 ** 6, 10 ** 30):
            self.assertIsNone(buffer.nth_start(entry, number), (code, entry, number))
        for start, stop in itertools.combinations_with_replacement(range(entry, len(code) + 1), 2):
            expected = len([offset for offset in begun if start <= offset < stop])
            self.assertTrue(same(buffer.start_count(entry, start, stop), expected), (code, entry, start, stop))
        return countdowns

    def check_queries(self, buffer, instruction_set, code):
        """Compare all queries for all entries and offsets with going along."""
        rows = [self.check_decoder(buffer, instruction_set, code, entry) for entry in range(len(code) + 1)]
        for entry, other in itertools.product(range(len(code) + 1), repeat=2):
            equal = [offset for offset in range(max(entry, other), len(code) + 1)
                     if rows[entry][offset] is not None and rows[entry][offset] == rows[other][offset]]
            expected = min(equal, default=None)
            self.assertTrue(same(buffer.agreement(entry, other), expected), (code, entry, other))
            if expected is not None:
                later = range(expected, len(code) + 1)
                self.assertEqual([rows[entry][at] for at in later], [rows[other][at] for at in later])

    def check_after_edit(self, led):
        """Compare the agreement after the last edit with decoding both codes, for all entries."""
        before, start, old_stop, new_stop = led.edits[-1]
        for entry in range(start + 1):
            old = go_along(led.instruction_set.instructions, before, entry)[0]
            new = go_along(led.instruction_set.instructions, led.code, entry)[0]
            equal = [offset for offset in range(new_stop, len(led.code) + 1)
                     if new[offset] is not None and new[offset] == old[offset - new_stop + old_stop]]
            answer = led.buffer.agreement_after_edit(entry)
            self.assertTrue(same(answer, min(equal, default=None)), (before, led.code, entry))
        for entry in (start + 1, len(led.code) + 1, -1):
            self.check_error(led.buffer.agreement_after_edit, (entry,), InvalidOffset, entry)

    def check_error(self, call, arguments, kind, value):
        before = repr(arguments)
        with self.assertRaises(OverlapError, msg=arguments) as caught:
            call(*arguments)
        self.assertIs(type(caught.exception), kind, arguments)
        self.assertTrue(same(caught.exception.value, value), arguments)
        self.assertEqual(repr(arguments), before)


class TestExample(unittest.TestCase):
    def test_example(self):
        buffer = CodeBuffer(SMALL, (1, 2, 3))
        buffer.repeat(0, 3, 10 ** 14)
        answer = (buffer.length(), buffer.start_count(0, 0, buffer.length()), buffer.agreement(0, 1))
        self.assertTrue(same(answer, (300000000000000, 200000000000000, 3)))


class TestInterface(BufferTest):
    def test_methods_stand_in_the_class(self):
        for name in METHODS:
            self.assertIn(name, vars(CodeBuffer))

    def test_arguments_by_name(self):
        buffer = CodeBuffer(code=(1, 2, 3, 0), instruction_set=SMALL)
        self.assertIsNone(buffer.repeat(times=2, stop=2, start=1))
        self.assertEqual(buffer.code(stop=5, start=0), (1, 2, 2, 3, 0))
        self.assertEqual(buffer.agreement_after_edit(entry=0), 4)
        self.assertIsNone(buffer.delete(stop=2, start=1))
        self.assertEqual(buffer.countdown(offset=1, entry=0), 1)
        self.assertEqual(buffer.start_count(stop=4, entry=0, start=1), 2)
        self.assertEqual(buffer.nth_start(number=2, entry=0), 3)
        self.assertEqual(buffer.agreement(other=1, entry=0), 3)

    def test_empty_by_default(self):
        buffer = CodeBuffer(SMALL)
        self.assertTrue(same((buffer.length(), buffer.code(0, 0)), (0, ())))
        self.check_queries(buffer, SMALL, ())

    def test_equal_calls_return_equal_results(self):
        led = LedBuffer(WIDE)
        source = random.Random(1)
        for step in range(20):
            led.random_edit(source)
        size = len(led.code)
        first = [led.buffer.agreement(0, size // 2), led.buffer.nth_start(0, 3), led.buffer.code(0, size)]
        second = [led.buffer.agreement(0, size // 2), led.buffer.nth_start(0, 3), led.buffer.code(0, size)]
        self.assertTrue(same(first, second))


class TestNewBuffers(BufferTest):
    def test_codes_of_any_size(self):
        source = random.Random(2)
        for instruction_set in every_set():
            for size in (0, 1, 31, 32, 33, 64, 65, 100, 1000):
                code = random_code(source, instruction_set.byte_count, instruction_set.instructions, size)
                self.check_code(LedBuffer(instruction_set, code))

    def test_hundred_thousand_bytes(self):
        source = random.Random(3)
        code = tuple(source.choice((0, 0, 1, 1, 2, 2, 7)) for place in range(99990)) + (0,) * 10
        buffer = CodeBuffer(WIDE, code)
        self.assertEqual(buffer.code(0, 100000), code)
        for trial in range(30):
            entry, offset = sorted(source.randrange(100000) for place in range(2))
            self.assertEqual(buffer.countdown(entry, offset), countdown_at(WIDE, code, entry, offset))
            self.assertEqual(buffer.start_count(entry, offset, 100000),
                             len([at for at in starts(WIDE, code, entry) if at >= offset]))

    def test_anything_that_is_no_code(self):
        for instruction_set in every_set():
            for value in [*any_values(), (instruction_set.byte_count,), (0, -1), (0, True), (0, None), ((0,),)]:
                if is_plain_code(instruction_set.byte_count, value):
                    self.assertEqual(CodeBuffer(instruction_set, value).code(0, len(value)), value)
                else:
                    self.check_error(CodeBuffer, (instruction_set, value), InvalidCode, value)


class TestEdits(BufferTest):
    def test_rows_of_edits(self):
        source = random.Random(11)
        for instruction_set in every_set():
            for row in range(3):
                led = LedBuffer(instruction_set, random_code(source, *SETS["one byte"], source.randrange(8)))
                for step in range(25):
                    self.assertIsNone(led.random_edit(source))
                    self.check_code(led)
                    if step % 5 == 0:
                        self.check_slices(led)

    def test_each_kind_everywhere(self):
        code = (0, 1, 2, 3, 1)
        for start, stop in itertools.combinations_with_replacement(range(6), 2):
            calls = [("delete", (start, stop))]
            calls += [("insert", (start, new)) for new in ((), (3,), (2, 2))]
            calls += [("replace", (start, stop, new)) for new in ((), (3,), (2, 2), code[start:stop])]
            calls += [("repeat", (start, stop, times)) for times in range(4)]
            for name, arguments in calls:
                led = LedBuffer(SMALL, code)
                self.assertIsNone(getattr(led, name)(*arguments))
                self.check_code(led)
                self.check_slices(led)
                self.assertIsNone(led.undo())
                self.check_code(led)
                self.check_error_nothing(led)

    def check_error_nothing(self, led):
        with self.assertRaises(NothingToUndo) as caught:
            led.buffer.undo()
        self.assertIs(type(caught.exception), NothingToUndo)

    def test_two_hundred_edits_and_back(self):
        source = random.Random(12)
        for name in ("small", "wide", "longest", "all"):
            led = LedBuffer(InstructionSet(*SETS[name]))
            for step in range(200):
                self.assertIsNone(led.random_edit(source))
                self.check_code(led)
            self.check_slices(led)
            while led.edits:
                self.assertIsNone(led.undo())
                self.check_code(led)
            self.check_error_nothing(led)
            self.check_code(led)

    def test_undo_between_edits(self):
        source = random.Random(13)
        for instruction_set in every_set():
            led = LedBuffer(instruction_set)
            for step in range(60):
                if led.edits and source.random() < 0.4:
                    led.undo()
                else:
                    led.random_edit(source)
                self.check_code(led)

    def test_undo_of_edits_that_change_nothing(self):
        led = LedBuffer(SMALL, (1, 2, 3))
        led.insert(1, (0,))
        led.insert(1, ())
        led.delete(2, 2)
        led.replace(0, 2, (1, 0))
        led.replace(4, 4, ())
        led.repeat(1, 1, 0)
        led.repeat(0, 4, 1)
        for edit in range(6):
            led.undo()
            self.assertEqual(led.buffer.code(0, 4), (1, 0, 2, 3))
        led.undo()
        self.assertEqual(led.buffer.code(0, 3), (1, 2, 3))
        self.check_error_nothing(led)

    def test_two_buffers_by_turns(self):
        source = random.Random(14)
        first, second = LedBuffer(SMALL, (1, 2, 3)), LedBuffer(SMALL, (1, 2, 3))
        for step in range(60):
            led = source.choice((first, second))
            if led.edits and source.random() < 0.3:
                led.undo()
            else:
                led.random_edit(source)
            for other in (first, second):
                self.check_code(other)
        for led in (first, second):
            self.check_queries(led.buffer, SMALL, led.code)

    def test_nothing_to_undo_at_first(self):
        for code in ((), (1, 2, 3)):
            self.check_error_nothing(LedBuffer(SMALL, code))


class TestEditErrors(BufferTest):
    def setUp(self):
        self.code = (1, 2, 3, 0)
        self.buffer = CodeBuffer(SMALL, self.code)
        self.buffer.insert(2, (3, 3))
        self.code = (1, 2, 3, 3, 3, 0)

    def check_unchanged(self):
        """Check that the code and the one edit are as they were, and make the edit again."""
        self.assertEqual(self.buffer.code(0, 6), self.code)
        self.assertEqual(self.buffer.length(), 6)
        self.buffer.undo()
        self.assertEqual(self.buffer.code(0, self.buffer.length()), (1, 2, 3, 0))
        with self.assertRaises(NothingToUndo):
            self.buffer.undo()
        self.buffer.insert(2, (3, 3))

    def check_call(self, name, arguments):
        """Compare the error of an edit with the order of the document; a call without one is taken back."""
        offsets = arguments[:1] if name == "insert" else arguments[:2]
        expected = None
        if not is_offset(offsets[0], 0, 6):
            expected = InvalidOffset, offsets[0]
        elif len(offsets) == 2 and not is_offset(offsets[1], offsets[0], 6):
            expected = InvalidOffset, offsets[1]
        elif name in ("insert", "replace") and not is_plain_code(4, arguments[-1]):
            expected = InvalidCode, arguments[-1]
        elif name == "repeat":
            times = arguments[2]
            if type(times) is not int or times < 0 or 6 + (arguments[1] - arguments[0]) * (times - 1) > 10 ** 15:
                expected = InvalidTimes, times
        if expected is None:
            getattr(self.buffer, name)(*arguments)
            self.buffer.undo()
        else:
            self.check_error(getattr(self.buffer, name), arguments, *expected)
        return expected

    def test_offsets_of_every_kind(self):
        rows = offsets_around(6)
        for value in rows:
            self.check_call("insert", (value, (0,)))
        for start, stop in itertools.product(rows, repeat=2):
            self.check_call("delete", (start, stop))
            self.check_call("replace", (start, stop, (0,)))
            self.check_call("repeat", (start, stop, 2))
        self.check_unchanged()

    def test_any_value_as_an_offset(self):
        for value in any_values():
            for name, rest in (("insert", [(0,)]), ("delete", [3]), ("replace", [3, (0,)]), ("repeat", [3, 2])):
                self.check_call(name, (value, *rest))
            for name, rest in (("delete", []), ("replace", [(0,)]), ("repeat", [2])):
                self.check_call(name, (3, value, *rest))
        self.check_unchanged()

    def test_any_value_as_a_code(self):
        for value in [*any_values(), (0, 4), (3, -1), (0, True)]:
            self.check_call("insert", (2, value))
            self.check_call("replace", (2, 4, value))
            self.check_call("replace", (6, 6, value))
        self.check_unchanged()

    def test_any_value_as_times(self):
        for value in any_values():
            self.check_call("repeat", (2, 4, value))
            self.check_call("repeat", (3, 3, value))
        self.check_unchanged()

    def test_several_invalid_at_once(self):
        wrong = [7, -1, True, None, [0], (4,), [], {}, "1"]
        for start, stop, last in itertools.product([2, *wrong], [4, 1, *wrong], [(0,), 2, *wrong]):
            self.check_call("replace", (start, stop, last))
            self.check_call("repeat", (start, stop, last))
            self.check_call("insert", (start, last))
        self.assertEqual(self.check_call("replace", (2, 1, [])), (InvalidOffset, 1))
        self.assertEqual(self.check_call("repeat", (2, 4, None)), (InvalidTimes, None))
        self.check_unchanged()

    def test_stop_below_start(self):
        for name, rest in (("delete", ()), ("replace", ((0,),)), ("repeat", (2,))):
            for start, stop in ((1, 0), (6, 5), (4, 2)):
                self.assertEqual(self.check_call(name, (start, stop, *rest)), (InvalidOffset, stop))
        self.check_unchanged()


class TestLengthLimit(BufferTest):
    def test_just_to_the_limit_and_above(self):
        buffer = CodeBuffer(SMALL, (1,) * 7)
        times = (10 ** 15 - 4) // 3
        # 4 + 3 * times comes just to the limit, as the limit minus 4 is divisible by 3.
        self.assertEqual((10 ** 15 - 4) % 3, 0)
        far = 10 ** 30
        for wrong in (times + 1, 10 ** 15, far):
            self.check_error(buffer.repeat, (2, 5, wrong), InvalidTimes, wrong)
        self.assertEqual(buffer.code(0, buffer.length()), (1,) * 7)
        self.assertIsNone(buffer.repeat(2, 5, times))
        self.assertEqual(buffer.length(), 10 ** 15)
        for wrong in (2, 3, far):
            self.check_error(buffer.repeat, (0, 1, wrong), InvalidTimes, wrong)
            self.check_error(buffer.repeat, (0, 10 ** 15, wrong), InvalidTimes, wrong)
        self.assertEqual(buffer.length(), 10 ** 15)
        self.assertIsNone(buffer.repeat(0, 10 ** 15, 1))
        self.assertIsNone(buffer.repeat(0, 10 ** 15, 0))
        self.assertEqual(buffer.length(), 0)
        for edit in range(3):
            buffer.undo()
        self.assertEqual(buffer.code(0, buffer.length()), (1,) * 7)
        with self.assertRaises(NothingToUndo):
            buffer.undo()

    def test_one_byte_to_the_limit(self):
        buffer = CodeBuffer(SMALL, (0,))
        self.check_error(buffer.repeat, (0, 1, 10 ** 15 + 1), InvalidTimes, 10 ** 15 + 1)
        buffer.repeat(0, 1, 10 ** 15)
        self.assertEqual(buffer.length(), 10 ** 15)

    def test_empty_range_any_number_of_times(self):
        for code in ((), (1, 2, 3)):
            buffer = CodeBuffer(SMALL, code)
            for times in (0, 1, 10 ** 15, 10 ** 15 + 1, 10 ** 29, 10 ** 30):
                for offset in range(len(code) + 1):
                    self.assertIsNone(buffer.repeat(offset, offset, times))
                    self.assertEqual(buffer.code(0, buffer.length()), code)
            self.check_error(buffer.repeat, (0, 0, -1), InvalidTimes, -1)
            self.check_error(buffer.repeat, (0, 0, True), InvalidTimes, True)
            self.check_error(buffer.repeat, (0, 0, None), InvalidTimes, None)

    def test_empty_range_at_the_limit(self):
        buffer = CodeBuffer(SMALL, (0,))
        buffer.repeat(0, 1, 10 ** 15)
        self.assertIsNone(buffer.repeat(5, 5, 10 ** 29))
        self.assertEqual(buffer.length(), 10 ** 15)


class TestQueryErrors(BufferTest):
    def setUp(self):
        self.buffer = CodeBuffer(SMALL, (1, 2, 3, 0, 1, 3))

    def check_call(self, name, arguments, leasts):
        """Compare the error of a query with the order of the document.

        `leasts` has, for each offset, the place of the one that it is at least, or None.
        """
        wrong = None
        for place, (value, least) in enumerate(zip(arguments, leasts)):
            if not is_offset(value, 0 if least is None else arguments[least], 6):
                wrong = (value,)
                break
        if wrong is None:
            getattr(self.buffer, name)(*arguments)
        else:
            self.check_error(getattr(self.buffer, name), arguments, InvalidOffset, wrong[0])

    def test_offsets_of_every_kind(self):
        rows = offsets_around(6)
        for pair in itertools.product(rows, repeat=2):
            self.check_call("code", pair, (None, 0))
            self.check_call("countdown", pair, (None, 0))
            self.check_call("agreement", pair, (None, None))
        for triple in itertools.product(rows, repeat=3):
            self.check_call("start_count", triple, (None, 0, 1))
        for value in [*rows, *any_values()]:
            self.check_call("nth_start", (value, 0), (None,))
        self.assertEqual(self.buffer.code(0, 6), (1, 2, 3, 0, 1, 3))

    def test_any_value(self):
        for value in any_values():
            for name in ("code", "countdown"):
                self.check_call(name, (value, 4), (None, 0))
                self.check_call(name, (2, value), (None, 0))
            self.check_call("agreement", (value, 4), (None, None))
            self.check_call("agreement", (2, value), (None, None))
            self.check_call("start_count", (value, 4, 5), (None, 0, 1))
            self.check_call("start_count", (2, value, 5), (None, 0, 1))
            self.check_call("start_count", (2, 3, value), (None, 0, 1))

    def test_at_least_another_one(self):
        for name, arguments, wrong in (
            ("code", (3, 2), 2), ("countdown", (3, 2), 2), ("start_count", (3, 2, 6), 2), ("start_count", (3, 5, 4), 4),
            ("start_count", (3, 2, 1), 2), ("start_count", (7, 2, 1), 7),
        ):
            self.check_error(getattr(self.buffer, name), arguments, InvalidOffset, wrong)
        self.assertEqual(self.buffer.agreement(3, 2), self.buffer.agreement(2, 3))

    def test_most_bytes_of_code(self):
        buffer = CodeBuffer(SMALL, (1, 2, 3))
        buffer.repeat(0, 3, 10 ** 14)
        self.assertEqual(buffer.code(1, 100001), ((1, 2, 3) * 33335)[1:100001])
        self.check_error(buffer.code, (1, 100002), InvalidOffset, 100002)
        self.check_error(buffer.code, (0, 100001), InvalidOffset, 100001)
        self.check_error(buffer.code, (0, 3 * 10 ** 14), InvalidOffset, 3 * 10 ** 14)
        last = 3 * 10 ** 14
        self.assertEqual(len(buffer.code(last - 100000, last)), 100000)
        self.check_error(buffer.code, (last - 100001, last), InvalidOffset, last)
        # The first invalid offset is told.
        self.check_error(buffer.code, (last + 1, 0), InvalidOffset, last + 1)


class TestQueries(BufferTest):
    def test_short_codes(self):
        source = random.Random(21)
        for instruction_set in every_set():
            for size in (0, 1, 2, 5, 12, 20):
                code = random_code(source, instruction_set.byte_count, instruction_set.instructions, size)
                self.check_queries(CodeBuffer(instruction_set, code), instruction_set, code)

    def test_all_short_codes(self):
        for name in ("small", "zero is invalid"):
            instruction_set = InstructionSet(*SETS[name])
            for size in range(5):
                for code in itertools.product(range(instruction_set.byte_count), repeat=size):
                    self.check_queries(CodeBuffer(instruction_set, code), instruction_set, code)

    def test_behind_edits(self):
        source = random.Random(22)
        for instruction_set in every_set():
            led = LedBuffer(instruction_set)
            for step in range(16):
                if led.edits and source.random() < 0.2:
                    led.undo()
                else:
                    led.random_edit(source, most=20)
                if step % 4 == 3 and len(led.code) <= 40:
                    self.check_queries(led.buffer, instruction_set, led.code)

    def test_codes_longer_than_a_row(self):
        source = random.Random(23)
        for name in ("wide", "longest is load", "all"):
            instruction_set = InstructionSet(*SETS[name])
            code = random_code(source, *SETS[name], 80)
            buffer = CodeBuffer(instruction_set, code)
            for entry in (0, 1, 31, 32, 33, 64, 79, 80):
                self.check_decoder(buffer, instruction_set, code, entry)

    def test_same_bytes_by_different_edits(self):
        source = random.Random(24)
        for instruction_set in every_set():
            code = random_code(source, instruction_set.byte_count, instruction_set.instructions, 6) * 3
            at_once = CodeBuffer(instruction_set, code)
            repeated = CodeBuffer(instruction_set, code[:6])
            repeated.repeat(0, 6, 3)
            by_bytes = CodeBuffer(instruction_set)
            for byte in code[::-1]:
                by_bytes.insert(0, (byte,))
            cut_down = CodeBuffer(instruction_set, code * 2)
            cut_down.delete(9, 9 + len(code))
            for buffer in (at_once, repeated, by_bytes, cut_down):
                self.assertEqual(buffer.code(0, len(code)), code)
                self.check_queries(buffer, instruction_set, code)

    def test_entries_at_the_end(self):
        for code in ((), (1, 2, 3), (7, 7)):
            buffer = CodeBuffer(WIDE, code)
            size = len(code)
            answers = (buffer.countdown(size, size), buffer.start_count(size, size, size), buffer.nth_start(size, 0),
                       buffer.agreement(size, size))
            self.assertTrue(same(answers, (0, 0, None, size)))

    def test_decoders_that_stop(self):
        buffer = CodeBuffer(WIDE, (0, 1, 7, 0, 0, 0, 0))
        self.assertTrue(same([buffer.countdown(0, at) for at in range(8)], [0, 1, 0, None, None, None, None, None]))
        self.assertEqual((buffer.start_count(0, 0, 7), buffer.start_count(0, 2, 7), buffer.start_count(0, 4, 7)),
                         (1, 0, 0))
        self.assertEqual((buffer.nth_start(0, 0), buffer.nth_start(0, 1)), (0, None))
        # Both come to the invalid byte with the countdown 0; then neither has one.
        self.assertEqual(buffer.agreement(0, 2), 2)
        self.assertEqual(buffer.agreement(2, 2), 2)
        self.assertIsNone(buffer.agreement(2, 3))
        self.assertIsNone(buffer.agreement(0, 1))
        self.assertEqual(buffer.agreement(1, 4), 4)

    def test_agreement_before_both_stop(self):
        buffer = CodeBuffer(WIDE, (0, 0, 0, 0, 7, 0, 0))
        self.assertEqual(buffer.agreement(0, 2), 2)
        self.assertIsNone(buffer.agreement(0, 1))
        stops_apart = CodeBuffer(WIDE, (0, 0, 7, 7, 7))
        self.assertIsNone(stops_apart.agreement(0, 1))

    def test_agreement_with_itself(self):
        source = random.Random(25)
        for instruction_set in every_set():
            code = random_code(source, instruction_set.byte_count, instruction_set.instructions, 40)
            buffer = CodeBuffer(instruction_set, code)
            self.assertEqual([buffer.agreement(at, at) for at in range(41)], list(range(41)))


class TestAgreementAfterEdit(BufferTest):
    def test_each_kind(self):
        source = random.Random(31)
        for kind, instruction_set in itertools.product(KINDS, every_set()):
            for trial in range(6):
                size = source.randrange(25)
                code = random_code(source, instruction_set.byte_count, instruction_set.instructions, size)
                led = LedBuffer(instruction_set, code)
                led.random_edit(source, (kind,))
                self.check_after_edit(led)

    def test_rows_of_edits_and_undo(self):
        source = random.Random(32)
        answers = set()
        for instruction_set in every_set():
            led = LedBuffer(instruction_set)
            for step in range(30):
                if led.edits and source.random() < 0.3:
                    led.undo()
                else:
                    led.random_edit(source, most=30)
                if led.edits:
                    self.check_after_edit(led)
                    answers.add(led.buffer.agreement_after_edit(0) is None)
                else:
                    with self.assertRaises(NothingToUndo):
                        led.buffer.agreement_after_edit(0)
        self.assertEqual(answers, {True, False})

    def test_behind_an_undo_it_speaks_of_the_edit_before(self):
        buffer = CodeBuffer(SMALL, (2, 0, 0, 0))
        buffer.insert(1, (2,))
        self.assertEqual(buffer.agreement_after_edit(0), 3)
        buffer.delete(0, 5)
        self.assertEqual(buffer.agreement_after_edit(0), 0)
        buffer.undo()
        self.assertEqual(buffer.agreement_after_edit(0), 3)
        self.check_error(buffer.agreement_after_edit, (2,), InvalidOffset, 2)
        buffer.undo()
        with self.assertRaises(NothingToUndo):
            buffer.agreement_after_edit(0)

    def test_all_short_codes(self):
        for code in itertools.product(range(3), repeat=4):
            for start, stop in itertools.combinations_with_replacement(range(5), 2):
                for new in ((), (0,), (2, 1)):
                    led = LedBuffer(InstructionSet(*SETS["long first"]), code)
                    led.replace(start, stop, new)
                    self.check_after_edit(led)

    def test_edits_that_change_nothing(self):
        for start in range(4):
            led = LedBuffer(WIDE, (0, 1, 2, 0, 7, 1))
            led.repeat(start, 4, 1)
            self.check_after_edit(led)
            led.insert(start, ())
            self.check_after_edit(led)

    def test_any_value(self):
        for value in any_values():
            buffer = CodeBuffer(SMALL, (1, 2, 3))
            with self.assertRaises(NothingToUndo):
                buffer.agreement_after_edit(value)
            buffer.insert(2, (0,))
            if is_offset(value, 0, 2):
                buffer.agreement_after_edit(value)
            else:
                self.check_error(buffer.agreement_after_edit, (value,), InvalidOffset, value)
            buffer.undo()
            with self.assertRaises(NothingToUndo):
                buffer.agreement_after_edit(value)


if __name__ == "__main__":
    unittest.main()
