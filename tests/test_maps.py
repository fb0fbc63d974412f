import itertools
import random
import unittest

from overlapcode.decoding import countdown_at, starts
from overlapcode.instructions import InstructionSet
from overlapcode.maps import code_map, compose_maps, identity_map, is_synchronized, merge_classes, repeat_map
from tests.plain import plain_map
from tests.samples import SETS, random_code, same

SMALL = InstructionSet(*SETS["small"])
WIDE = InstructionSet(*SETS["wide"])


def codes(sizes, seed):
    """Codes of these sizes for each instruction set."""
    source = random.Random(seed)
    for byte_count, instructions in SETS.values():
        instruction_set = InstructionSet(byte_count, instructions)
        for size in sizes:
            yield instruction_set, random_code(source, byte_count, instructions, size)


def plain_repeat(summary, times):
    """The map of a repeated code, by going from copy to copy until a countdown comes again."""
    rows = []
    for countdown in range(len(summary)):
        total = 0
        seen = {}
        left = times
        while left > 0 and countdown is not None:
            if countdown in seen:
                past, reached = seen[countdown]
                rounds = left // (past - left)
                total += rounds * (total - reached)
                left -= rounds * (past - left)
                seen = {}
                continue
            seen[countdown] = (left, total)
            countdown, begun = summary[countdown]
            total += begun
            left -= 1
        rows.append((countdown, total))
    return tuple(rows)


class TestCodeMap(unittest.TestCase):
    def test_example(self):
        self.assertTrue(same(code_map(SMALL, (1, 2, 3)), ((0, 2), (0, 1))))

    def test_against_byte_by_byte_decoding(self):
        for instruction_set, code in codes([*range(16), 23, 40], 11):
            expected = plain_map(instruction_set.instructions, code)
            self.assertTrue(same(code_map(instruction_set, code), expected), (instruction_set.instructions, code))

    def test_one_byte(self):
        for byte_count, instructions in SETS.values():
            instruction_set = InstructionSet(byte_count, instructions)
            for byte in range(byte_count):
                length = instruction_set.length_at(byte)
                first = (length - 1, 1) if length > 0 else (None, 0)
                rest = [(countdown - 1, 0) for countdown in range(1, instruction_set.longest())]
                self.assertTrue(same(code_map(instruction_set, (byte,)), (first, *rest)))

    def test_identity_map(self):
        for byte_count, instructions in SETS.values():
            instruction_set = InstructionSet(byte_count, instructions)
            expected = tuple((countdown, 0) for countdown in range(max(item[2] for item in instructions)))
            self.assertTrue(same(identity_map(instruction_set), expected))
            self.assertTrue(same(code_map(instruction_set, ()), expected))

    def test_shorter_than_the_longest_instruction(self):
        instruction_set = InstructionSet(3, ((0, "one", 1, True), (1, "long", 12, False)))
        self.assertEqual(code_map(instruction_set, (1, 0, 0))[:5], ((9, 1), (0, 2), (0, 1), (0, 0), (1, 0)))
        self.assertEqual(code_map(instruction_set, (1, 0, 0))[11], (8, 0))

    def test_decoders_that_stop(self):
        self.assertTrue(same(code_map(WIDE, (0, 0, 7, 0)), ((None, 1), (1, 2), (None, 0))))
        self.assertTrue(same(code_map(WIDE, (0, 1, 0, 1, 5)), ((None, 2), (None, 1), (None, 1))))
        self.assertTrue(same(code_map(WIDE, (7,) * 5), ((None, 0),) * 3))

    def test_same_as_decoding_from_each_entry(self):
        for instruction_set, code in codes([12, 30], 12):
            rows = code_map(instruction_set, code)
            for entry in range(min(len(rows), len(code) + 1)):
                expected = (countdown_at(instruction_set, code, entry, len(code)),
                            len(starts(instruction_set, code, entry)))
                self.assertTrue(same(rows[entry], expected))

    def test_long_code(self):
        source = random.Random(13)
        for name in ("small", "longest", "all"):
            byte_count, instructions = SETS[name]
            code = tuple(source.choice(instructions)[0] for place in range(100000))
            self.assertEqual(code_map(InstructionSet(byte_count, instructions), code), plain_map(instructions, code))

    def test_arguments_by_name(self):
        self.assertEqual(code_map(code=(1, 2, 3), instruction_set=SMALL), ((0, 2), (0, 1)))
        self.assertEqual(identity_map(instruction_set=SMALL), ((0, 0), (1, 0)))


class TestComposeMaps(unittest.TestCase):
    def test_wherever_a_code_is_cut(self):
        for instruction_set, code in codes([0, 1, 2, 5, 13, 30], 21):
            whole = plain_map(instruction_set.instructions, code)
            for cut in range(len(code) + 1):
                first = code_map(instruction_set, code[:cut])
                second = code_map(instruction_set, code[cut:])
                self.assertTrue(same(compose_maps(first, second), whole), (code, cut))

    def test_either_grouping(self):
        for instruction_set, code in codes([3, 9, 14], 22):
            whole = plain_map(instruction_set.instructions, code)
            for low, high in itertools.combinations(range(len(code) + 1), 2):
                parts = [code_map(instruction_set, part) for part in (code[:low], code[low:high], code[high:])]
                left = compose_maps(compose_maps(parts[0], parts[1]), parts[2])
                right = compose_maps(parts[0], compose_maps(parts[1], parts[2]))
                self.assertTrue(same((left, right), (whole, whole)))

    def test_byte_by_byte(self):
        for instruction_set, code in codes([20], 23):
            summary = identity_map(instruction_set)
            for byte in code:
                summary = compose_maps(summary, code_map(instruction_set, (byte,)))
            self.assertTrue(same(summary, code_map(instruction_set, code)))

    def test_identity_changes_nothing(self):
        for instruction_set, code in codes([0, 1, 6, 17], 24):
            summary = code_map(instruction_set, code)
            self.assertTrue(same(compose_maps(identity_map(instruction_set), summary), summary))
            self.assertTrue(same(compose_maps(summary, identity_map(instruction_set)), summary))

    def test_stopped_decoder_begins_nothing_more(self):
        stopping = ((None, 5), (0, 3), (None, 0))
        going = ((1, 10), (2, 20), (0, 30))
        self.assertTrue(same(compose_maps(stopping, going), ((None, 5), (1, 13), (None, 0))))
        self.assertTrue(same(compose_maps(going, stopping), ((0, 13), (None, 20), (None, 35))))

    def test_arguments_by_name(self):
        first, second = code_map(SMALL, (1,)), code_map(SMALL, (2, 3))
        self.assertEqual(compose_maps(second=second, first=first), ((0, 2), (0, 1)))


class TestRepeatMap(unittest.TestCase):
    def test_against_the_code_itself(self):
        for instruction_set, code in codes([0, 1, 2, 3, 5, 8, 13], 31):
            summary = code_map(instruction_set, code)
            for times in range(12):
                expected = plain_map(instruction_set.instructions, code * times)
                self.assertTrue(same(repeat_map(summary, times), expected), (code, times))

    def test_no_copies_and_one(self):
        for instruction_set, code in codes([1, 7], 32):
            summary = code_map(instruction_set, code)
            self.assertTrue(same(repeat_map(summary, 0), identity_map(instruction_set)))
            self.assertTrue(same(repeat_map(summary, 1), summary))

    def test_many_copies(self):
        for instruction_set, code in codes([1, 2, 3, 6, 11, 25], 33):
            summary = code_map(instruction_set, code)
            for times in (100, 1000, 1023, 1024, 10 ** 15, 10 ** 29 - 1, 10 ** 29, 10 ** 29 + 7, 10 ** 30):
                self.assertTrue(same(repeat_map(summary, times), plain_repeat(summary, times)), (code, times))

    def test_sums_and_products_of_copies(self):
        for instruction_set, code in codes([3, 10], 34):
            summary = code_map(instruction_set, code)
            for first, second in ((10 ** 14, 10 ** 15 - 1), (10 ** 28 + 3, 7), (5, 10 ** 29)):
                both = compose_maps(repeat_map(summary, first), repeat_map(summary, second))
                self.assertEqual(repeat_map(summary, first + second), both)
            self.assertEqual(repeat_map(repeat_map(summary, 10 ** 14), 10 ** 15), repeat_map(summary, 10 ** 29))

    def test_known_numbers(self):
        many = 10 ** 29
        self.assertEqual(repeat_map(code_map(SMALL, (1, 2, 3)), many), ((0, 2 * many), (0, 2 * many - 1)))
        # In this code one decoder begins one instruction in two copies, the other one begins it in the copy between.
        alternating = code_map(SMALL, (1,))
        self.assertEqual(repeat_map(alternating, many), ((0, many // 2), (1, many // 2)))
        self.assertEqual(repeat_map(alternating, many + 1), ((1, many // 2 + 1), (0, many // 2)))

    def test_long_code_many_times(self):
        source = random.Random(35)
        code = tuple(source.choice((0, 1, 2)) for place in range(100000))
        summary = code_map(WIDE, code)
        self.assertEqual(repeat_map(summary, 10 ** 29), plain_repeat(summary, 10 ** 29))

    def test_arguments_by_name(self):
        self.assertEqual(repeat_map(times=3, summary=((0, 2), (0, 1))), ((0, 6), (0, 5)))


class TestMergeClasses(unittest.TestCase):
    def check(self, summary):
        reached = [pair[0] for pair in summary]
        classes = merge_classes(summary)
        expected = sorted(
            tuple(countdown for countdown in range(len(summary)) if reached[countdown] == behind)
            for behind in range(len(summary)) if behind in reached
        )
        self.assertTrue(same(classes, tuple(expected)), summary)

    def test_example(self):
        self.assertTrue(same(merge_classes(code_map(SMALL, (1, 2, 3))), ((0, 1),)))

    def test_against_the_map(self):
        for instruction_set, code in codes(range(26), 41):
            self.check(code_map(instruction_set, code))

    def test_all_maps_of_four_countdowns(self):
        for reached in itertools.product((None, 0, 1, 2, 3), repeat=4):
            self.check(tuple((behind, at) for at, behind in enumerate(reached)))

    def test_known_ones(self):
        self.assertEqual(merge_classes(((3, 0), (1, 0), (3, 9), (0, 1))), ((0, 2), (1,), (3,)))
        self.assertEqual(merge_classes(((None, 0), (None, 2))), ())
        self.assertEqual(merge_classes(((None, 0), (5, 2), (0, 1), (5, 0), (0, 0), (None, 3))), ((1, 3), (2, 4)))
        self.assertEqual(merge_classes(identity_map(WIDE)), ((0,), (1,), (2,)))

    def test_arguments_by_name(self):
        self.assertEqual(merge_classes(summary=((0, 1), (0, 0))), ((0, 1),))


class TestIsSynchronized(unittest.TestCase):
    def check(self, summary, countdowns):
        reached = {summary[countdown][0] for countdown in countdowns}
        expected = len(reached) == 0 or (len(reached) == 1 and None not in reached)
        self.assertIs(is_synchronized(summary, countdowns), expected, (summary, countdowns))
        return expected

    def test_against_the_map(self):
        source = random.Random(51)
        answers = set()
        for instruction_set, code in codes([0, 1, 4, 9, 15, 30], 52):
            summary = code_map(instruction_set, code)
            for trial in range(20):
                many = source.randrange(6)
                countdowns = tuple(source.randrange(len(summary)) for place in range(many))
                answers.add(self.check(summary, countdowns))
        self.assertEqual(answers, {True, False})

    def test_all_tuples_of_small_maps(self):
        for reached in itertools.product((None, 0, 1), repeat=3):
            summary = tuple((behind, 4) for behind in reached)
            for many in range(4):
                for countdowns in itertools.product(range(3), repeat=many):
                    self.check(summary, countdowns)

    def test_numbers_of_instructions_do_not_count(self):
        self.assertIs(is_synchronized(((0, 1), (0, 2), (1, 2)), (0, 1)), True)
        self.assertIs(is_synchronized(((0, 1), (0, 2), (1, 2)), (1, 2)), False)

    def test_stopped_decoders(self):
        stopped = ((None, 0), (None, 0), (2, 0))
        self.assertIs(is_synchronized(stopped, ()), True)
        self.assertIs(is_synchronized(stopped, (0,)), False)
        self.assertIs(is_synchronized(stopped, (0, 1)), False)
        self.assertIs(is_synchronized(stopped, (2, 1, 2)), False)
        self.assertIs(is_synchronized(stopped, (2, 2)), True)

    def test_classes_are_synchronized(self):
        for instruction_set, code in codes([8, 16], 53):
            summary = code_map(instruction_set, code)
            classes = merge_classes(summary)
            for row in classes:
                self.assertIs(is_synchronized(summary, row[::-1] + row), True)
            for first, second in itertools.combinations(classes, 2):
                self.assertIs(is_synchronized(summary, (second[0], first[0])), False)

    def test_arguments_by_name(self):
        self.assertIs(is_synchronized(countdowns=(1, 0), summary=((0, 1), (0, 2))), True)


if __name__ == "__main__":
    unittest.main()
