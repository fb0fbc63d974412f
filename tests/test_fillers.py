import itertools
import math
import random
import unittest

from overlapcode.decoding import countdown_at
from overlapcode.errors import InvalidCountdowns, OverlapError
from overlapcode.fillers import all_countdowns, conflict, filler, filler_length, filler_lengths, is_filler
from overlapcode.instructions import InstructionSet
from overlapcode.lengths import conductor
from overlapcode.maps import code_map, is_synchronized
from tests.plain import go_along, is_padded, padding_sums, plain_conflict, plain_lengths, searched_filler
from tests.samples import SETS, any_values, random_code, same, two_letters

SMALL = InstructionSet(*SETS["small"])
WIDE = InstructionSet(*SETS["wide"])

CALLS = {
    "conflict": conflict,
    "filler_length": filler_length,
    "filler_lengths": lambda instruction_set, countdowns: filler_lengths(instruction_set, countdowns, 5),
    "filler": filler,
    "filler of a length": lambda instruction_set, countdowns: filler(instruction_set, countdowns, 5),
    "is_filler": lambda instruction_set, countdowns: is_filler(instruction_set, countdowns, (0, 1)),
    "is_filler of no code": lambda instruction_set, countdowns: is_filler(instruction_set, countdowns, [None]),
}


def padded(lengths, longest, byte_count=14):
    """An instruction set with padding of these lengths in this order, and one other instruction."""
    rows = [(opcode, two_letters(opcode), length, True) for opcode, length in enumerate(lengths)]
    return InstructionSet(byte_count, (*rows, (byte_count - 1, "work", longest, False)))


def subsets(longest):
    """All tuples of countdowns."""
    for many in range(longest + 1):
        yield from itertools.combinations(range(longest), many)


def some_countdowns(longest):
    """No, one, all countdowns, steps of two to four, and others."""
    rows = {(), tuple(range(longest)), (0, longest - 1) if longest > 1 else (0,)}
    rows |= {(countdown,) for countdown in range(longest)}
    rows |= {tuple(range(first, longest, step)) for step in (2, 3, 4) for first in range(min(step, longest))}
    source = random.Random(longest)
    for trial in range(8):
        rows.add(tuple(sorted(source.sample(range(longest), source.randint(0, longest)))))
    return sorted(rows)


def pairs():
    """Each instruction set with some countdowns."""
    for byte_count, instructions in SETS.values():
        instruction_set = InstructionSet(byte_count, instructions)
        for countdowns in some_countdowns(instruction_set.longest()):
            yield instruction_set, countdowns


def plain_is_filler(instruction_set, countdowns, value):
    if type(value) is not tuple:
        return False
    if not all(type(byte) is int and 0 <= byte < instruction_set.byte_count for byte in value):
        return False
    return all(is_padded(instruction_set.instructions, value, countdown) for countdown in countdowns)


class TestCountdowns(unittest.TestCase):
    def check(self, instruction_set, value):
        """Compare with a plain reading of which countdowns are valid."""
        valid = type(value) is tuple and all(type(item) is int for item in value)
        if valid:
            longest = max(item[2] for item in instruction_set.instructions)
            valid = list(value) == sorted(set(value)) and all(0 <= item < longest for item in value)
        before = repr(value)
        for name, call in CALLS.items():
            if valid:
                call(instruction_set, value)
            else:
                with self.assertRaises(OverlapError, msg=(name, value)) as caught:
                    call(instruction_set, value)
                self.assertIs(type(caught.exception), InvalidCountdowns, name)
                self.assertIs(caught.exception.value, value, name)
            self.assertEqual(repr(value), before)
        return valid

    def test_all_countdowns(self):
        for byte_count, instructions in SETS.values():
            instruction_set = InstructionSet(byte_count, instructions)
            countdowns = all_countdowns(instruction_set)
            self.assertTrue(same(countdowns, tuple(range(max(item[2] for item in instructions)))))
            self.assertTrue(self.check(instruction_set, countdowns))
        self.assertEqual(all_countdowns(instruction_set=SMALL), (0, 1))

    def test_valid_ones(self):
        for instruction_set, countdowns in pairs():
            self.assertTrue(self.check(instruction_set, countdowns))

    def test_one_part_changed(self):
        for instruction_set, countdowns in pairs():
            longest = instruction_set.longest()
            for at, item in enumerate(countdowns):
                parts = [longest, longest + 1, -1, True, False, None, str(item), (item,), [item], {}, 10 ** 30]
                for part in parts:
                    self.assertFalse(self.check(instruction_set, (*countdowns[:at], part, *countdowns[at + 1:])))
                doubled = (*countdowns[:at], item, item, *countdowns[at + 1:])
                self.assertFalse(self.check(instruction_set, doubled))
            if len(countdowns) > 1:
                self.assertFalse(self.check(instruction_set, countdowns[::-1]))
                self.assertFalse(self.check(instruction_set, (countdowns[1], countdowns[0], *countdowns[2:])))
                self.assertFalse(self.check(instruction_set, (*countdowns[:-2], countdowns[-1], countdowns[-2])))
            self.assertFalse(self.check(instruction_set, list(countdowns)))
            self.assertFalse(self.check(instruction_set, (*countdowns, longest)))
            self.assertFalse(self.check(instruction_set, (-1, *countdowns)))
            self.assertFalse(self.check(instruction_set, (countdowns,)))

    def test_any_value(self):
        for instruction_set in (SMALL, WIDE, InstructionSet(*SETS["one byte"]), InstructionSet(*SETS["longest"])):
            for value in any_values():
                self.check(instruction_set, value)
                self.check(instruction_set, (value,))
                self.check(instruction_set, (0, value))
                self.check(instruction_set, (value, 1))

    def test_booleans_are_no_countdowns(self):
        for value in ((True,), (False,), (0, True), (False, 1), (False, True)):
            self.assertFalse(self.check(WIDE, value))

    def test_longest_instruction_need_not_be_padding(self):
        instruction_set = padded((1, 2), 9)
        self.assertTrue(self.check(instruction_set, (0, 8)))
        self.assertFalse(self.check(instruction_set, (0, 9)))


class TestConflictsAndLengths(unittest.TestCase):
    def check(self, instruction_set, countdowns, most):
        instructions = instruction_set.instructions
        expected = plain_conflict(instructions, countdowns)
        lengths = plain_lengths(instructions, countdowns, most)
        told = (instructions, countdowns)
        self.assertTrue(same(conflict(instruction_set, countdowns), expected), told)
        if expected is not None:
            self.assertEqual(lengths, (), told)
            self.assertIsNone(filler_length(instruction_set, countdowns), told)
            self.assertIsNone(filler(instruction_set, countdowns), told)
        else:
            self.assertTrue(same(filler_length(instruction_set, countdowns), lengths[0]), told)
            self.assertEqual(len(filler(instruction_set, countdowns)), lengths[0], told)
        self.assertTrue(same(filler_lengths(instruction_set, countdowns, most), lengths), told)

    def test_all_sets(self):
        for instruction_set, countdowns in pairs():
            self.check(instruction_set, countdowns, 300)

    def test_all_padding_lengths_up_to_six(self):
        for many in range(5):
            for lengths in itertools.combinations(range(1, 7), many):
                for longest in {max((1, *lengths)), 6}:
                    instruction_set = padded(lengths, longest)
                    for countdowns in subsets(longest):
                        self.check(instruction_set, countdowns, 60)

    def test_larger_padding_lengths(self):
        for lengths in ((12,), (11, 12), (8, 12), (9, 12), (10, 12), (6, 9), (4, 6), (7, 11), (6, 10), (12, 8, 6)):
            instruction_set = padded(lengths, 12)
            for countdowns in some_countdowns(12):
                self.check(instruction_set, countdowns, 200)

    def test_conflict_is_a_pair_without_a_filler(self):
        for instruction_set, countdowns in pairs():
            pair = conflict(instruction_set, countdowns)
            if pair is None:
                continue
            self.assertTrue(pair[0] < pair[1] and pair[0] in countdowns and pair[1] in countdowns)
            sums = padding_sums(instruction_set.instructions, 400)
            self.assertFalse(any(sums[total] and sums[total - pair[1] + pair[0]] for total in range(20, 400)))
            self.assertIsNone(filler(instruction_set, pair))
            self.assertEqual(filler_lengths(instruction_set, pair, 100), ())
            self.assertIsNone(filler(instruction_set, countdowns, 60))

    def test_known_conflicts(self):
        even = InstructionSet(*SETS["even"])
        self.assertEqual(conflict(even, (0, 1, 2, 3)), (0, 1))
        self.assertEqual(conflict(even, (0, 2, 3)), (0, 3))
        self.assertEqual(conflict(even, (1, 2, 3)), (1, 2))
        self.assertIsNone(conflict(even, (1, 3)))
        threes = InstructionSet(*SETS["threes"])
        self.assertEqual(conflict(threes, (1, 4, 6, 7)), (1, 6))
        self.assertIsNone(conflict(threes, (1, 4, 7)))

    def test_without_padding(self):
        plain = InstructionSet(*SETS["no padding"])
        self.assertIsNone(conflict(plain, ()))
        for countdown in range(5):
            self.assertIsNone(conflict(plain, (countdown,)))
            self.assertTrue(same(filler_length(plain, (countdown,)), countdown))
            self.assertTrue(same(filler_lengths(plain, (countdown,), 20), (countdown,)))
            self.assertTrue(same(filler(plain, (countdown,)), (0,) * countdown))
            self.assertIsNone(filler(plain, (countdown,), countdown + 1))
        self.assertEqual(conflict(plain, (1, 3, 4)), (1, 3))
        self.assertIsNone(filler_length(plain, (1, 3, 4)))

    def test_no_countdowns(self):
        for byte_count, instructions in SETS.values():
            instruction_set = InstructionSet(byte_count, instructions)
            self.assertIsNone(conflict(instruction_set, ()))
            self.assertTrue(same(filler_length(instruction_set, ()), 0))
            self.assertTrue(same(filler_lengths(instruction_set, (), 4), (0, 1, 2, 3, 4)))
            self.assertTrue(same(filler(instruction_set, ()), ()))
            self.assertTrue(same(filler(instruction_set, (), 5), (0,) * 5))

    def test_countdown_zero_alone(self):
        for byte_count, instructions in SETS.values():
            instruction_set = InstructionSet(byte_count, instructions)
            self.assertTrue(same(filler_length(instruction_set, (0,)), 0))
            self.assertTrue(same(filler(instruction_set, (0,)), ()))
            self.assertTrue(same(filler(instruction_set, (0,), 0), ()))
            self.assertTrue(same(filler_lengths(instruction_set, (0,), 0), (0,)))

    def test_bounds_around_the_shortest_length(self):
        for instruction_set, countdowns in pairs():
            shortest = filler_length(instruction_set, countdowns)
            if shortest is None:
                self.assertEqual(filler_lengths(instruction_set, countdowns, 0), ())
                continue
            if shortest > 0:
                self.assertEqual(filler_lengths(instruction_set, countdowns, shortest - 1), ())
                self.assertIsNone(filler(instruction_set, countdowns, shortest - 1))
            self.assertTrue(same(filler_lengths(instruction_set, countdowns, shortest), (shortest,)))
            above = filler_lengths(instruction_set, countdowns, shortest + 30)
            self.assertEqual(above[0], shortest)
            self.assertEqual(above, plain_lengths(instruction_set.instructions, countdowns, shortest + 30))
            self.assertEqual(filler(instruction_set, countdowns), filler(instruction_set, countdowns, shortest))

    def test_conductor(self):
        for many in range(1, 5):
            for lengths in itertools.combinations(range(1, 13), many):
                if math.gcd(*lengths) != 1:
                    continue
                for longest in {max(lengths), 12}:
                    instruction_set = padded(lengths, longest)
                    expected = conductor(lengths) + longest - 1
                    self.assertTrue(same(filler_length(instruction_set, all_countdowns(instruction_set)), expected))

    def test_bound_of_a_hundred_thousand(self):
        for name, countdowns in (("longest", tuple(range(12))), ("even", (1, 3)), ("no padding", (2,)), ("all", ())):
            instruction_set = InstructionSet(*SETS[name])
            expected = plain_lengths(instruction_set.instructions, countdowns, 100000)
            self.assertEqual(filler_lengths(instruction_set, countdowns, 100000), expected)
        self.assertEqual(filler_lengths(InstructionSet(*SETS["even"]), (0, 1), 100000), ())

    def test_arguments_by_name(self):
        self.assertIsNone(conflict(countdowns=(0, 1), instruction_set=WIDE))
        self.assertEqual(filler_length(countdowns=(0, 1), instruction_set=WIDE), 3)
        self.assertEqual(filler_lengths(most=5, countdowns=(0, 1), instruction_set=WIDE), (3, 4, 5))
        self.assertEqual(filler(length=3, countdowns=(0, 1), instruction_set=WIDE), (1, 0, 0))
        self.assertEqual(filler(countdowns=(0, 1), instruction_set=WIDE), (1, 0, 0))
        self.assertIs(is_filler(value=(1, 0, 0), countdowns=(0, 1), instruction_set=WIDE), True)


class TestLeastFiller(unittest.TestCase):
    def test_example(self):
        self.assertTrue(same((filler_length(WIDE, (0, 1, 2)), filler(WIDE, (0, 1, 2))), (4, (0, 1, 0, 0))))

    def first_codes(self, byte_count, instructions, length):
        """For each group of entries that some code of this length pads from, the first such code."""
        longest = max(item[2] for item in instructions)
        first = {}
        for code in itertools.product(range(byte_count), repeat=length):
            entries = frozenset(entry for entry in range(longest) if is_padded(instructions, code, entry))
            first.setdefault(entries, code)
        return first

    def check_all_codes(self, byte_count, instructions, most):
        instruction_set = InstructionSet(byte_count, instructions)
        longest = instruction_set.longest()
        tuples = list(subsets(longest)) if longest <= 5 else some_countdowns(longest)
        found = {countdowns: [] for countdowns in tuples}
        for length in range(most + 1):
            first = self.first_codes(byte_count, instructions, length)
            for countdowns in tuples:
                fillers = [code for entries, code in first.items() if entries >= set(countdowns)]
                expected = min(fillers, default=None)
                told = (instructions, countdowns, length)
                self.assertTrue(same(filler(instruction_set, countdowns, length), expected), told)
                if expected is not None:
                    found[countdowns].append(length)
        for countdowns in tuples:
            self.assertEqual(filler_lengths(instruction_set, countdowns, most), tuple(found[countdowns]))
            if found[countdowns]:
                self.assertEqual(filler_length(instruction_set, countdowns), found[countdowns][0])

    def test_all_codes_of_two_bytes(self):
        for lengths in itertools.product(range(1, 6), repeat=2):
            for marks in ((True, True), (True, False), (False, True)):
                self.check_all_codes(2, ((0, "a", lengths[0], marks[0]), (1, "b", lengths[1], marks[1])), 7)
        self.check_all_codes(2, ((0, "a", 3, True), (1, "b", 2, True)), 9)
        self.check_all_codes(2, ((0, "a", 4, True), (1, "b", 3, True)), 9)
        self.check_all_codes(2, ((1, "b", 2, True),), 9)
        self.check_all_codes(*SETS["longest"], 9)

    def test_all_codes_of_three_bytes(self):
        for name in ("one length", "one length twice", "even", "long first", "short first", "zero is load",
                     "zero is invalid"):
            self.check_all_codes(*SETS[name], 9)
        self.check_all_codes(3, ((0, "a", 3, True), (1, "b", 1, False), (2, "c", 2, True)), 9)

    def test_all_codes_of_four_bytes(self):
        for name in ("lengths twice", "no padding", "threes"):
            self.check_all_codes(*SETS[name], 7)
        self.check_all_codes(*SETS["small"], 9)

    def test_against_a_search(self):
        names = ("small", "wide", "one length", "even", "long first", "short first", "zero is load", "lengths twice",
                 "zero is invalid")
        for name in names:
            byte_count, instructions = SETS[name]
            instruction_set = InstructionSet(byte_count, instructions)
            for countdowns in some_countdowns(instruction_set.longest()):
                for length in (0, 1, 2, 3, 5, 8, 9, 10, 11, 12, 17, 23, 24, 31):
                    expected = searched_filler(byte_count, instructions, countdowns, length)
                    told = (name, countdowns, length)
                    self.assertTrue(same(filler(instruction_set, countdowns, length), expected), told)

    def test_shortest_fillers_against_a_search(self):
        for lengths in ((5, 4), (4, 5), (3, 5), (5, 3), (4, 6), (6, 4), (5, 6), (6, 5), (3, 6), (5, 2, 3)):
            instruction_set = padded(lengths, 6, 5)
            for countdowns in some_countdowns(6):
                shortest = filler_length(instruction_set, countdowns)
                if shortest is not None:
                    found = searched_filler(5, instruction_set.instructions, countdowns, shortest)
                    self.assertTrue(same(filler(instruction_set, countdowns), found), (lengths, countdowns))

    def test_each_instruction_set_at_its_lengths(self):
        for instruction_set, countdowns in pairs():
            lengths = plain_lengths(instruction_set.instructions, countdowns, 160)
            for length in range(0, 160, 7):
                code = filler(instruction_set, countdowns, length)
                self.assertIs(code is not None, length in lengths)
                if code is not None:
                    self.assertEqual(len(code), length)
                    self.assertTrue(plain_is_filler(instruction_set, countdowns, code))

    def test_long_lengths(self):
        for instruction_set, countdowns in pairs():
            for length in (2000, 2001, 4998, 4999, 5000):
                self.check_long(instruction_set, countdowns, length)

    def test_a_hundred_thousand(self):
        for name, countdowns in (("small", (0, 1)), ("wide", (0, 1, 2)), ("longest", tuple(range(12))),
                                 ("even", (0, 2)), ("even", (1, 3)), ("all", tuple(range(12))), ("threes", (1, 4)),
                                 ("threes", (0,)), ("no padding", (3,)), ("longest is load", (0, 3, 11))):
            for length in (99999, 100000):
                self.check_long(InstructionSet(*SETS[name]), countdowns, length)

    def check_long(self, instruction_set, countdowns, length):
        divisor = math.gcd(*instruction_set.padding_lengths())
        # So far behind the conductor, the sums are exactly the multiples of the common divisor.
        expected = all(divisor > 0 and (length - countdown) % divisor == 0 for countdown in countdowns)
        code = filler(instruction_set, countdowns, length)
        told = (instruction_set.instructions, countdowns, length)
        self.assertIs(code is not None, expected, told)
        if code is not None:
            self.assertEqual(len(code), length, told)
            self.assertTrue(plain_is_filler(instruction_set, countdowns, code), told)
            self.assertIs(is_filler(instruction_set, countdowns, code), True, told)
            self.check_zeros(instruction_set, countdowns, code)

    def check_zeros(self, instruction_set, countdowns, code):
        """Where no decoder begins an instruction, the least filler has the byte 0."""
        begun = set()
        for countdown in countdowns:
            begun.update(go_along(instruction_set.instructions, code, countdown)[1])
        self.assertFalse(any(byte for offset, byte in enumerate(code) if offset not in begun))

    def test_equal_calls_return_equal_results(self):
        rows = [(WIDE, (0, 1, 2)), (SMALL, (0, 1)), (WIDE, (0,)), (WIDE, (0, 1, 2))]
        first = [[repr(call(*row)) for call in CALLS.values()] for row in rows]
        second = [[repr(call(*row)) for call in CALLS.values()] for row in reversed(rows)]
        self.assertEqual(first, second[::-1])


class TestIsFiller(unittest.TestCase):
    def check(self, instruction_set, countdowns, value):
        before = repr(value)
        expected = plain_is_filler(instruction_set, countdowns, value)
        self.assertIs(is_filler(instruction_set, countdowns, value), expected, (countdowns, before))
        self.assertEqual(repr(value), before)
        return expected

    def test_all_short_codes(self):
        for name, most in (("small", 4), ("wide", 3), ("no padding", 4), ("even", 6), ("zero is load", 6),
                           ("one byte", 7), ("one length twice", 6)):
            byte_count, instructions = SETS[name]
            instruction_set = InstructionSet(byte_count, instructions)
            tuples = some_countdowns(instruction_set.longest())
            for length in range(most + 1):
                for code in itertools.product(range(byte_count), repeat=length):
                    for countdowns in tuples:
                        self.check(instruction_set, countdowns, code)

    def test_fillers_with_a_byte_changed_left_out_or_added(self):
        answers = []
        for instruction_set, countdowns in pairs():
            shortest = filler_length(instruction_set, countdowns)
            if shortest is None:
                continue
            code = filler(instruction_set, countdowns)
            self.assertTrue(self.check(instruction_set, countdowns, code))
            others = sorted({0, 1, instruction_set.byte_count - 1, instruction_set.instructions[-1][0]})
            for at in range(len(code) + 1):
                changed = [(*code[:at], byte, *code[at:]) for byte in others]
                if at < len(code):
                    changed += [(*code[:at], byte, *code[at + 1:]) for byte in others]
                    changed.append((*code[:at], *code[at + 1:]))
                for value in changed:
                    answers.append(self.check(instruction_set, countdowns, value))
        self.assertIn(True, answers)
        self.assertIn(False, answers)

    def test_fillers_with_a_part_that_is_no_byte(self):
        code = (0, 1, 0, 0)
        self.assertTrue(self.check(WIDE, (0, 1, 2), code))
        for part in (8, -1, True, False, None, "0", (0,), [0], {}, 10 ** 30):
            for at in range(4):
                self.assertFalse(self.check(WIDE, (0, 1, 2), (*code[:at], part, *code[at + 1:])))
                self.assertFalse(self.check(WIDE, (), (*code[:at], part, *code[at + 1:])))
            self.assertFalse(self.check(WIDE, (0, 1, 2), (*code, part)))
        self.assertFalse(self.check(WIDE, (0, 1, 2), list(code)))
        self.assertFalse(self.check(WIDE, (0, 1, 2), [code]))
        self.assertFalse(self.check(WIDE, (0, 1, 2), (code,)))

    def test_decoders_that_leave_early_or_late(self):
        # From 0 the code ends within an instruction, from 1 it ends with one.
        self.assertFalse(self.check(WIDE, (0,), (0, 0, 0)))
        self.assertTrue(self.check(WIDE, (1,), (0, 0, 0)))
        self.assertFalse(self.check(WIDE, (0, 1), (0, 0, 0)))
        # All but one decoder come to the end.
        self.assertTrue(self.check(WIDE, (1, 2), (0, 1, 0, 0)))
        self.assertFalse(self.check(WIDE, (0, 1, 2), (0, 1, 1, 0)))
        self.assertTrue(self.check(WIDE, (0, 2), (0, 1, 0, 0)))

    def test_other_instructions_are_no_padding(self):
        self.assertTrue(self.check(SMALL, (0, 1), (0, 0)))
        self.assertFalse(self.check(SMALL, (0,), (3, 0)))
        self.assertFalse(self.check(SMALL, (0, 1), (0, 3)))
        self.assertFalse(self.check(SMALL, (0,), (2, 0)))
        self.assertTrue(self.check(SMALL, (1,), (3, 0)))
        self.assertTrue(self.check(SMALL, (0,), (1, 3)))

    def test_invalid_bytes(self):
        self.assertFalse(self.check(WIDE, (0,), (7, 0)))
        self.assertTrue(self.check(WIDE, (0,), (0, 7)))
        self.assertTrue(self.check(WIDE, (1,), (7, 0, 0)))
        self.assertFalse(self.check(WIDE, (0, 1), (0, 7, 0, 0)))

    def test_codes_shorter_than_a_countdown(self):
        for longest in range(2, 13):
            instruction_set = padded((1,), longest)
            for countdown in range(longest):
                for size in range(longest + 2):
                    expected = size >= countdown
                    self.assertIs(is_filler(instruction_set, (countdown,), (0,) * size), expected)
                    self.check(instruction_set, tuple(range(countdown + 1)), (0,) * size)

    def test_any_value(self):
        for instruction_set in (SMALL, WIDE, InstructionSet(*SETS["no padding"]), InstructionSet(*SETS["all"])):
            for countdowns in ((), (0,), all_countdowns(instruction_set)):
                for value in any_values():
                    self.check(instruction_set, countdowns, value)
                    self.check(instruction_set, countdowns, (value,))
                    self.check(instruction_set, countdowns, (0, value))

    def test_every_code_is_a_filler_for_no_countdowns(self):
        for code in ((), (3, 3), (2,), (0, 1, 2, 3)):
            self.assertTrue(self.check(SMALL, (), code))
        self.assertTrue(self.check(WIDE, (), (7, 7, 7)))
        for value in ([], [0], (4,), None, "", 0, {}, (True,)):
            self.assertFalse(self.check(SMALL, (), value))

    def test_long_values(self):
        code = (0,) * 100000
        self.assertTrue(self.check(SMALL, (0, 1), code))
        self.assertFalse(self.check(SMALL, (0, 1), (*code[:-1], 3)))
        self.assertFalse(self.check(WIDE, (0, 1), code))


class TestBehindACode(unittest.TestCase):
    def test_decoders_are_synchronized(self):
        source = random.Random(61)
        synchronized = 0
        for byte_count, instructions in SETS.values():
            instruction_set = InstructionSet(byte_count, instructions)
            for size in (0, 1, 3, 8, 20, 40):
                code = random_code(source, byte_count, instructions, size)
                ends = [countdown_at(instruction_set, code, entry, size) for entry in range(size + 1)]
                reached = sorted({end for end in ends if end is not None})
                for many in range(1, len(reached) + 1):
                    countdowns = tuple(sorted(source.sample(reached, many)))
                    if conflict(instruction_set, countdowns) is None:
                        self.check(instruction_set, code, ends, countdowns)
                        synchronized += 1
        self.assertGreater(synchronized, 200)

    def check(self, instruction_set, code, ends, countdowns):
        shortest = filler_length(instruction_set, countdowns)
        more = filler_lengths(instruction_set, countdowns, shortest + 15)[-1]
        for padding in (filler(instruction_set, countdowns), filler(instruction_set, countdowns, more)):
            whole = code + padding
            for entry, end in enumerate(ends):
                if end in countdowns:
                    self.assertEqual(countdown_at(instruction_set, whole, entry, len(whole)), 0)
            pairs_of_code = code_map(instruction_set, code)
            pairs_of_whole = code_map(instruction_set, whole)
            coming = tuple(s for s, pair in enumerate(pairs_of_code) if pair[0] in countdowns)
            self.assertTrue(all(pairs_of_whole[s][0] == 0 for s in coming))
            self.assertIs(is_synchronized(pairs_of_whole, coming), True)
            self.assertTrue(all(code_map(instruction_set, padding)[s][0] == 0 for s in countdowns))


if __name__ == "__main__":
    unittest.main()
