import itertools
import math
import random
import unittest

from overlapcode.errors import InvalidLengths
from overlapcode.lengths import common_divisor, conductor, gap_count, is_sum, least_sums, sum_parts
from tests.samples import any_values, same

FIFTY = tuple(range(951, 1001))
SPREAD = tuple(range(20, 1001, 20))

CALLS = {
    "common_divisor": common_divisor,
    "is_sum": lambda lengths: is_sum(lengths, 5),
    "least_sums": least_sums,
    "conductor": conductor,
    "gap_count": gap_count,
    "sum_parts": lambda lengths: sum_parts(lengths, 5),
}


def reachable(lengths, most):
    """Whether each integer up to `most` is a sum, found by plain adding."""
    sums = [True] + [False] * most
    for total in range(1, most + 1):
        sums[total] = any(length <= total and sums[total - length] for length in lengths)
    return sums


def small_tuples():
    """All tuples of up to three lengths up to 9, and some with larger lengths."""
    for many in range(4):
        yield from itertools.combinations(range(1, 10), many)
    yield from [(6, 9, 20), (10, 15), (12,), (1, 50), (4, 6, 8, 10, 12), (6, 10, 15), (5, 8, 9, 12), (12, 18, 27)]
    # Here a later length lowers most least sums of an earlier one.
    yield from [(10, 19, 22), (12, 23, 26, 27), (14, 27, 30)]


def is_valid(value):
    """A plain reading of the document, written apart from the program."""
    if type(value) is not tuple or len(value) > 50:
        return False
    if [type(item) for item in value] != [int] * len(value):
        return False
    return list(value) == sorted(set(value)) and all(item in range(1, 1001) for item in value)


class TestValidity(unittest.TestCase):
    def check(self, lengths):
        valid = is_valid(lengths)
        before = repr(lengths)
        for name, call in CALLS.items():
            if valid:
                call(lengths)
            else:
                with self.assertRaises(InvalidLengths, msg=(name, lengths)) as caught:
                    call(lengths)
                self.assertIs(caught.exception.value, lengths)
            self.assertEqual(repr(lengths), before)
        return valid

    def test_valid_ones(self):
        for lengths in ((), (1,), (1000,), (1, 1000), (999, 1000), tuple(range(1, 51)), FIFTY, SPREAD, (2, 4, 6)):
            self.assertTrue(self.check(lengths), lengths)

    def test_invalid_ones(self):
        rows = [
            (0,), (0, 1), (-1,), (1001,), (1, 1001), (True,), (False,), (1, True), (True, 2), (2, None), (2, "3"),
            ("2",), (2, 2), (2, 3, 3), (3, 2), (2, 4, 3), (1, 3, 2, 4), [], [1, 2], [2], (2, (3,)), (2, [3]), ({},),
            tuple(range(1, 52)), tuple(range(950, 1001)), (2,) * 51, None, 0, 2, True, "", "23", {}, {2: 3},
        ]
        for lengths in rows:
            self.assertFalse(self.check(lengths), lengths)

    def test_any_value(self):
        for value in any_values():
            self.check(value)

    def test_one_part_changed_to_any_value(self):
        for value in any_values():
            for lengths in ((value,), (2, value), (value, 5), (2, value, 9)):
                self.check(lengths)

    def test_invalid_whatever_the_total(self):
        for total in (0, 1, 10 ** 30):
            for call in (is_sum, sum_parts):
                with self.assertRaises(InvalidLengths):
                    call([2, 3], total)

    def test_arguments_by_name(self):
        self.assertEqual(common_divisor(lengths=(4, 6)), 2)
        self.assertIs(is_sum(total=11, lengths=(4, 7)), True)
        self.assertEqual(least_sums(lengths=(1,)), (0,))
        self.assertEqual(conductor(lengths=(4, 7)), 18)
        self.assertEqual(gap_count(lengths=(4, 7)), 9)
        self.assertEqual(sum_parts(total=11, lengths=(4, 7)), ((4, 1), (7, 1)))


class TestAgainstPlainAdding(unittest.TestCase):
    def test_example(self):
        self.assertEqual((conductor((4, 7)), gap_count((4, 7)), least_sums((4, 7))), (18, 9, (0, 21, 14, 7)))

    def test_no_lengths(self):
        self.assertTrue(same(common_divisor(()), 0))
        self.assertEqual(least_sums(()), ())
        self.assertIsNone(conductor(()))
        self.assertIsNone(gap_count(()))
        self.assertEqual([is_sum((), total) for total in (0, 1, 2, 10 ** 30)], [True, False, False, False])
        self.assertEqual([sum_parts((), total) for total in (0, 1, 10 ** 30)], [(), None, None])

    def test_common_divisor(self):
        for lengths in [*small_tuples(), FIFTY, SPREAD, (1000,), (999, 1000), (500, 1000), (360, 840, 960)]:
            self.assertTrue(same(common_divisor(lengths), math.gcd(*lengths)), lengths)

    def test_is_sum(self):
        for lengths in small_tuples():
            for total, expected in enumerate(reachable(lengths, 100)):
                self.assertIs(is_sum(lengths, total), expected, (lengths, total))

    def test_least_sums(self):
        for lengths in small_tuples():
            if lengths == ():
                continue
            sums = reachable(lengths, 700)
            expected = tuple(
                next((total for total in range(rest, 701, lengths[0]) if sums[total]), None)
                for rest in range(lengths[0])
            )
            self.assertTrue(same(least_sums(lengths), expected), lengths)

    def test_conductor_and_gap_count(self):
        for lengths in small_tuples():
            if math.gcd(*lengths) != 1:
                self.assertIsNone(conductor(lengths), lengths)
                self.assertIsNone(gap_count(lengths), lengths)
                continue
            gaps = [total for total, reached in enumerate(reachable(lengths, 700)) if not reached]
            self.assertTrue(same(conductor(lengths), max(gaps, default=-1) + 1), lengths)
            self.assertTrue(same(gap_count(lengths), len(gaps)), lengths)

    def test_one_among_them(self):
        for lengths in ((1,), (1, 2), (1, 1000), tuple(range(1, 51))):
            self.assertTrue(same((conductor(lengths), gap_count(lengths), least_sums(lengths)), (0, 0, (0,))), lengths)

    def test_one_length(self):
        for length in (2, 3, 17, 1000):
            self.assertIsNone(conductor((length,)))
            self.assertIsNone(gap_count((length,)))
            self.assertEqual(least_sums((length,)), (0, *[None] * (length - 1)))
            self.assertTrue(is_sum((length,), length * 10 ** 26))
            self.assertFalse(is_sum((length,), length * 10 ** 26 + 1))

    def test_larger_tuples(self):
        source = random.Random(7)
        for trial in range(30):
            lengths = tuple(sorted(source.sample(range(2, 200), source.randint(1, 12))))
            sums = reachable(lengths, 5000)
            for total in source.sample(range(5001), 25):
                self.assertIs(is_sum(lengths, total), sums[total], (lengths, total))

    def test_least_sums_of_larger_tuples(self):
        source = random.Random(8)
        for trial in range(60):
            lengths = tuple(sorted(source.sample(range(8, 80), source.randint(2, 6))))
            sums = reachable(lengths, 8000)
            expected = tuple(
                next((total for total in range(rest, 8001, lengths[0]) if sums[total]), None)
                for rest in range(lengths[0])
            )
            self.assertEqual(least_sums(lengths), expected, lengths)

    def test_many_large_lengths(self):
        for lengths in (FIFTY, SPREAD, tuple(range(3, 1000, 21)), tuple(range(501, 1000, 11))):
            sums = reachable(lengths, 25000)
            least = least_sums(lengths)
            for rest in range(lengths[0]):
                reached = next((total for total in range(rest, 25001, lengths[0]) if sums[total]), None)
                self.assertEqual(least[rest], reached, (lengths, rest))

    def test_two_lengths_without_a_common_divisor(self):
        pairs = [(a, b) for a in range(1, 30) for b in range(a + 1, 40)]
        pairs += [(999, 1000), (997, 1000), (991, 997), (2, 999), (500, 999), (1, 1000), (983, 984)]
        for first, second in pairs:
            if math.gcd(first, second) == 1:
                bound = (first - 1) * (second - 1)
                self.assertTrue(same(conductor((first, second)), bound), (first, second))
                self.assertTrue(same(gap_count((first, second)), bound // 2), (first, second))

    def test_totals_near_the_conductor(self):
        for lengths in ((4, 7), (6, 9, 20), (999, 1000), (991, 997), FIFTY, (123, 456, 790, 1000)):
            bound = conductor(lengths)
            self.assertFalse(is_sum(lengths, bound - 1))
            self.assertIsNone(sum_parts(lengths, bound - 1))
            for total in range(bound, bound + 20):
                self.assertTrue(is_sum(lengths, total))

    def test_totals_of_thirty_digits(self):
        for total in range(10 ** 30 - 20, 10 ** 30 + 1):
            self.assertIs(is_sum((4, 7), total), True)
            self.assertIs(is_sum((999, 1000), total), True)
            self.assertIs(is_sum((4, 6), total), total % 2 == 0)
            self.assertIs(is_sum(SPREAD, total), total % 20 == 0)


class TestSumParts(unittest.TestCase):
    def check(self, lengths, total):
        parts = sum_parts(lengths, total)
        if not is_sum(lengths, total):
            self.assertIsNone(parts, (lengths, total))
            return
        self.assertIs(type(parts), tuple)
        for part in parts:
            self.assertEqual([type(part), *map(type, part)], [tuple, int, int])
            self.assertIn(part[0], lengths)
            self.assertGreaterEqual(part[1], 1)
        used = [length for length, count in parts]
        self.assertEqual(used, sorted(set(used)), (lengths, total))
        self.assertEqual(sum(length * count for length, count in parts), total, (lengths, total))

    def test_zero(self):
        for lengths in [*small_tuples(), FIFTY]:
            self.assertEqual(sum_parts(lengths, 0), ())

    def test_small_tuples(self):
        for lengths in small_tuples():
            for total in range(80):
                self.check(lengths, total)

    def test_exactly_where_plain_adding_finds_a_sum(self):
        for lengths in ((4, 7), (6, 10), (5, 8, 9), (3,), (6, 9, 20)):
            for total, expected in enumerate(reachable(lengths, 120)):
                self.assertIs(sum_parts(lengths, total) is not None, expected, (lengths, total))

    def test_all_lengths_of_a_sum_may_be_needed(self):
        self.assertEqual(sum_parts((4, 7), 29), ((4, 2), (7, 3)))
        self.assertEqual(sum_parts((6, 10, 15), 31), ((6, 1), (10, 1), (15, 1)))

    def test_large_lengths(self):
        for lengths in (FIFTY, SPREAD, (999, 1000), (991, 997), (500, 1000), (1000,), tuple(range(1, 51))):
            bound = conductor(lengths) or 5000
            for total in (bound - 1, bound, bound + 1, 997 * 998, 10 ** 30, 10 ** 30 - 1, 10 ** 29 + 7):
                self.check(lengths, total)


class TestRepeatedCalls(unittest.TestCase):
    def test_equal_calls_return_equal_results(self):
        rows = [(), (4, 7), (4, 6), (6, 9, 20), FIFTY]
        first = [[repr(call(lengths)) for call in CALLS.values()] for lengths in rows]
        second = [[repr(call(lengths)) for call in CALLS.values()] for lengths in reversed(rows)]
        self.assertEqual(first, second[::-1])


if __name__ == "__main__":
    unittest.main()
