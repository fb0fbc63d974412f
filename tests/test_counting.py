import random
import unittest

from overlapcode.counting import overlay_at, overlay_count, overlay_number
from overlapcode.errors import InvalidNumber, OverlapError
from overlapcode.fillers import filler_lengths
from overlapcode.instructions import InstructionSet
from overlapcode.overlays import is_overlay, overlay, overlay_length
from tests.overlay_cases import HALT, LOAD, SMALL, WIDE, OverlayErrorTest, random_case, read_cases, small_sets
from tests.plain import all_codes, plain_is_overlay, plain_search, plain_state_count
from tests.samples import SETS, any_values, same


def plain_counts(instruction_set, programs, entries, most):
    """The numbers of overlays of 0 to `most` bytes, by following the states byte by byte from the start."""
    codes, behind = plain_search(instruction_set.byte_count, instruction_set.instructions, programs, entries)
    end = entries[-1], tuple((len(program), False, 0) for program in programs)
    reached = {next(iter(codes)): 1}
    counts = []
    for size in range(most + 1):
        counts.append(reached.get(end, 0))
        further = {}
        for state, many in reached.items():
            for other in behind[state]:
                if other is not None:
                    further[other] = further.get(other, 0) + many
        reached = further
    return counts


def cases(seed, trials, most_states, names=("small", "wide", "even", "zero is load", "lengths twice")):
    """Cases of small sets and of these ones, with few states."""
    source = random.Random(seed)
    rows = [*small_sets(2), *source.sample(list(small_sets(3)), 60)]
    rows += [InstructionSet(*SETS[name]) for name in names] * 10
    for trial in range(trials):
        instruction_set = source.choice(rows)
        programs, entries = random_case(source, instruction_set, 2, 4)
        if plain_state_count(instruction_set.instructions, programs, entries) <= most_states:
            yield instruction_set, programs, entries


class CountingTest(unittest.TestCase):
    def check_invalid(self, case, length, number):
        before = repr(number)
        with self.assertRaises(OverlapError, msg=(case, length, number)) as caught:
            overlay_at(*case, length, number)
        self.assertIs(type(caught.exception), InvalidNumber)
        self.assertTrue(same(caught.exception.value, number))
        self.assertEqual(repr(number), before)

    def check_length(self, case, length, expected):
        """Compare everything for this length with the overlays in order."""
        self.assertTrue(same(overlay_count(*case, length), len(expected)), (case, length))
        for number, code in enumerate(expected):
            self.assertTrue(same(overlay_at(*case, length, number), code), (case, length, number))
            self.assertTrue(same(overlay_number(*case, code), number), (case, code))
        for number in (-1, len(expected), len(expected) + 1, 10 ** 30):
            self.check_invalid(case, length, number)


class TestExamples(unittest.TestCase):
    def test_example(self):
        case = SMALL, ((HALT,),), (0,)
        self.assertTrue(same((overlay_count(*case, 2), overlay_at(*case, 2, 1)), (2, (3, 0))))
        self.assertTrue(same(overlay_number(*case, (3, 0)), 1))
        self.assertTrue(same((overlay_at(*case, 2, 0), overlay_number(*case, (0, 3))), ((0, 3), 0)))

    def test_arguments_by_name(self):
        case = {"entries": (0,), "programs": ((HALT,),), "instruction_set": SMALL}
        self.assertEqual(overlay_count(length=2, **case), 2)
        self.assertEqual(overlay_at(number=1, length=2, **case), (3, 0))
        self.assertEqual(overlay_number(code=(3, 0), **case), 1)


class TestAgainstAllCodes(CountingTest):
    def test_up_to_five_bytes(self):
        found = 0
        for case in cases(1, 90, 1000):
            instruction_set, programs, entries = case
            if instruction_set.byte_count > 4:
                continue
            lengths = {length: [] for length in range(6)}
            for code in all_codes(instruction_set.byte_count, 5):
                if plain_is_overlay(instruction_set.instructions, programs, entries, code):
                    lengths[len(code)].append(code)
                else:
                    self.assertIsNone(overlay_number(*case, code), (case, code))
            for length, expected in lengths.items():
                self.check_length(case, length, expected)
                found += len(expected)
        self.assertGreater(found, 300)


class TestAgainstCountingByStates(CountingTest):
    def test_lengths_up_to_fourteen(self):
        for case in cases(11, 60, 200):
            counts = plain_counts(*case, 14)
            answers = [overlay_count(*case, length) for length in range(15)]
            self.assertTrue(same(answers, counts), case)
            shortest = overlay_length(*case)
            if shortest is not None and shortest <= 14:
                self.assertEqual(next(size for size, many in enumerate(counts) if many), shortest)
                self.assertEqual(overlay_at(*case, shortest, 0), overlay(*case))
            else:
                self.assertEqual(set(counts), {0})

    def test_there_and_back(self):
        source = random.Random(12)
        for case in cases(13, 40, 300):
            for length in (3, 8, 14):
                count = overlay_count(*case, length)
                if count == 0:
                    self.check_invalid(case, length, 0)
                    continue
                numbers = sorted({0, count - 1, count // 2, *[source.randrange(count) for trial in range(3)]})
                codes = [overlay_at(*case, length, number) for number in numbers]
                self.assertEqual(codes, sorted(set(codes)))
                for number, code in zip(numbers, codes):
                    self.assertTrue(plain_is_overlay(case[0].instructions, *case[1:], code), (case, code))
                    self.assertEqual(len(code), length)
                    self.assertTrue(same(overlay_number(*case, code), number))
                self.check_invalid(case, length, count)
                self.check_invalid(case, length, -1)


class TestGreatNumbers(CountingTest):
    def test_lengths_up_to_three_hundred(self):
        source = random.Random(21)
        greatest = 0
        for case in cases(22, 12, 120):
            counts = plain_counts(*case, 300)
            for length in (20, 100, 299, 300):
                count = overlay_count(*case, length)
                self.assertTrue(same(count, counts[length]), (case, length))
                greatest = max(greatest, count)
                for number in {0, count - 1, count // 3, source.randrange(count + 1)}:
                    if 0 <= number < count:
                        code = overlay_at(*case, length, number)
                        self.assertIs(is_overlay(*case, code), True)
                        self.assertTrue(same(overlay_number(*case, code), number))
                self.check_invalid(case, length, count)
        self.assertGreater(greatest, 10 ** 60)

    def test_programs_read_from_codes(self):
        source = random.Random(23)
        many = 0
        for instruction_set, programs, entries, code in read_cases(("all", "few of many", "longest is load"), 16, 24,
                                                                   60):
            case = instruction_set, programs, entries
            count = overlay_count(*case, len(code))
            number = overlay_number(*case, code)
            self.assertTrue(0 <= number < count)
            self.assertTrue(same(overlay_at(*case, len(code), number), code))
            if number > 0:
                self.assertLess(overlay_at(*case, len(code), number - 1), code)
            if number < count - 1:
                self.assertLess(code, overlay_at(*case, len(code), number + 1))
            longer = overlay_count(*case, 120)
            chosen = source.randrange(longer) if longer else None
            if chosen is not None:
                self.assertEqual(overlay_number(*case, overlay_at(*case, 120, chosen)), chosen)
            many += 1
        self.assertGreater(many, 10)

    def test_known_numbers(self):
        # One halt among nops and skips: with n bytes of padding there are as many ways as choices of both sides.
        ways = [1, 1]
        for size in range(2, 301):
            ways.append(ways[-1] + 4 * ways[-2])
        expected = sum(ways[size] * ways[299 - size] for size in range(300))
        self.assertEqual(overlay_count(SMALL, ((HALT,),), (0,), 300), expected)
        self.assertEqual(overlay_count(SMALL, ((("load", (None,)),),), (0,), 2), 4)
        self.assertEqual(overlay_at(SMALL, ((("load", (None,)),),), (0,), 2, 3), (2, 3))

    def test_fillers(self):
        for entries in ((0,), (0, 1), (0, 2), (0, 1, 2)):
            programs = ((),) * len(entries)
            lengths = [length for length in range(31) if overlay_count(WIDE, programs, entries, length)]
            self.assertEqual(tuple(lengths), filler_lengths(WIDE, entries, 30))


class TestNumbers(CountingTest):
    def test_any_value(self):
        case = SMALL, ((HALT,),), (0,)
        for length in (0, 2, 5):
            count = overlay_count(*case, length)
            for value in [*any_values(), count, count - 1, str(count), (0,), [0], 10 ** 30, -count]:
                if type(value) is int and 0 <= value < count:
                    self.assertIs(is_overlay(*case, overlay_at(*case, length, value)), True)
                else:
                    self.check_invalid(case, length, value)

    def test_no_overlay_at_all(self):
        case = SMALL, ((LOAD, HALT), (HALT,)), (0, 1)
        for length in range(12):
            self.assertTrue(same(overlay_count(*case, length), 0))
            self.check_invalid(case, length, 0)
            self.assertIsNone(overlay_number(*case, (0,) * length))

    def test_the_empty_code(self):
        case = SMALL, ((),), (0,)
        self.assertTrue(same((overlay_count(*case, 0), overlay_at(*case, 0, 0), overlay_number(*case, ())), (1, (), 0)))
        self.check_invalid(case, 0, 1)
        self.assertIsNone(overlay_number(SMALL, ((HALT,),), (0,), ()))
        self.assertTrue(same(overlay_count(SMALL, ((HALT,),), (0,), 0), 0))

    def test_codes_that_are_none(self):
        case = SMALL, ((LOAD,), (HALT,)), (0, 1)
        self.assertTrue(same(overlay_number(*case, (2, 3)), 0))
        for code in ((), (2,), (2, 2), (3, 2), (2, 3, 1), (2, 3, 3)):
            self.assertIsNone(overlay_number(*case, code), code)


class TestErrors(OverlayErrorTest, unittest.TestCase):
    def test_overlay_count(self):
        self.check_all_errors(lambda *case: overlay_count(*case, 3))

    def test_overlay_number(self):
        self.check_all_errors(lambda *case: overlay_number(*case, (2, 3)))

    def test_overlay_at(self):
        # The errors of programs, entries and the state count come before that of the number.
        for number in (None, -1, 10 ** 30, [], True):
            def call(*case):
                try:
                    return overlay_at(*case, 3, number)
                except InvalidNumber as error:
                    self.assertIs(error.value, number)
            self.check_all_errors(call)


if __name__ == "__main__":
    unittest.main()
