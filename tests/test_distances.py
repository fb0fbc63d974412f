import itertools
import random
import unittest

from overlapcode.distances import distance_table, is_distance_table, next_state, start_state
from overlapcode.instructions import InstructionSet
from overlapcode.overlays import overlay, overlay_length
from tests.overlay_cases import (BARE, HALT, LOAD, SMALL, STATES_5000, WIDE, OverlayErrorTest, random_case, read_cases,
                                 small_sets)
from tests.plain import plain_distances, plain_search, plain_state, plain_state_count
from tests.samples import SETS, any_values, random_code, same


def small_cases(seed, trials, most_states):
    """Cases of sets of two or three bytes and of some others, with few states."""
    source = random.Random(seed)
    rows = [*small_sets(2), *source.sample(list(small_sets(3)), 100)]
    rows += [InstructionSet(*SETS[name]) for name in ("small", "wide", "even", "no padding", "zero is load")] * 10
    for trial in range(trials):
        instruction_set = source.choice(rows)
        programs, entries = random_case(source, instruction_set, 2, 4)
        if plain_state_count(instruction_set.instructions, programs, entries) <= most_states:
            yield instruction_set, programs, entries


class TestStates(unittest.TestCase):
    def check_along(self, instruction_set, programs, entries, code):
        """Go along the code and compare with the states of what was read so far; return how many bytes led on."""
        told = instruction_set.instructions, programs, entries, code
        state = start_state(instruction_set, programs, entries)
        self.assertTrue(same(state, plain_state(instruction_set.instructions, programs, entries, ())), told)
        for size, byte in enumerate(code, start=1):
            state = next_state(instruction_set, programs, entries, state, byte)
            expected = plain_state(instruction_set.instructions, programs, entries, code[:size])
            self.assertTrue(same(state, expected), (*told, size))
            if state is None:
                return size - 1
        return len(code)

    def test_along_random_codes(self):
        source = random.Random(1)
        for instruction_set, programs, entries in small_cases(2, 600, 5000):
            code = random_code(source, instruction_set.byte_count, instruction_set.instructions, 12)
            self.check_along(instruction_set, programs, entries, code)

    def test_along_codes_that_run_the_programs(self):
        many = 0
        names = ("all", "few of many", "small", "longest is load", "wide", "nine and twelve", "lengths twice")
        for instruction_set, programs, entries, code in read_cases(names, 24, 3, 80):
            self.assertEqual(self.check_along(instruction_set, programs, entries, code), len(code))
            found = overlay(instruction_set, programs, entries)
            self.assertEqual(self.check_along(instruction_set, programs, entries, found), len(found))
            many += 1
        self.assertGreater(many, 60)

    def test_every_byte_from_every_state(self):
        for instruction_set, programs, entries in small_cases(4, 60, 150):
            codes, behind = plain_search(instruction_set.byte_count, instruction_set.instructions, programs, entries)
            for state, rows in behind.items():
                for byte, expected in enumerate(rows):
                    answer = next_state(instruction_set, programs, entries, state, byte)
                    self.assertTrue(same(answer, expected), (state, byte))

    def test_known_ones(self):
        programs, entries = ((("load", (3,)),), (HALT,), ()), (0, 1, 2)
        first = start_state(SMALL, programs, entries)
        self.assertTrue(same(first, (0, ((0, False, 0), None, None))))
        second = next_state(SMALL, programs, entries, first, 2)
        self.assertTrue(same(second, (1, ((0, False, 1), (0, False, 0), None))))
        third = next_state(SMALL, programs, entries, second, 3)
        self.assertTrue(same(third, (2, ((1, False, 0), (1, False, 0), (0, False, 0)))))
        self.assertTrue(same(next_state(SMALL, programs, entries, third, 1),
                             (2, ((1, True, 1),) * 2 + ((0, True, 1),))))
        self.assertTrue(same(next_state(SMALL, programs, entries, third, 0), third))
        for state, byte in ((first, 3), (second, 0), (second, 2), (third, 2), (third, 3)):
            self.assertIsNone(next_state(SMALL, programs, entries, state, byte))
        self.assertTrue(same(next_state(SMALL, programs, entries, first, 1), (1, ((0, True, 1), (0, False, 0), None))))

    def test_invalid_bytes(self):
        state = start_state(WIDE, ((),), (0,))
        self.assertEqual([next_state(WIDE, ((),), (0,), state, byte) is None for byte in range(8)],
                         [False] * 2 + [True] * 6)

    def test_operands_of_padding_are_ignored(self):
        state = next_state(WIDE, ((),), (0,), start_state(WIDE, ((),), (0,)), 1)
        for byte in range(8):
            self.assertTrue(same(next_state(WIDE, ((),), (0,), state, byte), (0, ((0, True, 1),))))

    def test_arguments_by_name(self):
        case = {"entries": (0,), "programs": ((HALT,),), "instruction_set": SMALL}
        state = start_state(**case)
        self.assertEqual(next_state(byte=3, state=state, **case), (0, ((1, False, 0),)))
        table = distance_table(**case)
        self.assertIs(is_distance_table(value=table, **case), True)


class TestDistanceTable(unittest.TestCase):
    def check_closed(self, instruction_set, programs, entries, table):
        """Check what makes the table a proof: it holds all states, and each distance follows from those behind it."""
        distances = dict(table)
        self.assertEqual(len(distances), len(table))
        self.assertEqual(table[0][0], start_state(instruction_set, programs, entries))
        end = entries[-1], tuple((len(program), False, 0) for program in programs)
        for state, distance in table:
            behind = [next_state(instruction_set, programs, entries, state, byte)
                      for byte in range(instruction_set.byte_count)]
            ways = []
            for reached in behind:
                if reached is not None:
                    self.assertIn(reached, distances)
                    if distances[reached] is not None:
                        ways.append(distances[reached])
            self.assertEqual(distance == 0, state == end)
            if state != end:
                self.assertEqual(distance, min(ways) + 1 if ways else None)

    def test_against_a_search_byte_by_byte(self):
        seen = set()
        many = 0
        for instruction_set, programs, entries in small_cases(11, 500, 300):
            codes, behind = plain_search(instruction_set.byte_count, instruction_set.instructions, programs, entries)
            distances = plain_distances(programs, entries, behind)
            expected = tuple((state, distances[state]) for state in codes)
            table = distance_table(instruction_set, programs, entries)
            self.assertTrue(same(table, expected), (instruction_set.instructions, programs, entries))
            # The search goes by codes, so their order is that of the table.
            rows = [(len(code), code) for code in codes.values()]
            self.assertEqual(rows, sorted(rows))
            self.assertTrue(same(table[0][1], overlay_length(instruction_set, programs, entries)))
            seen.add((len(programs), table[0][1] is None))
            many += 1
        # A single program is its own overlay.
        self.assertEqual(seen, {(1, False), (2, False), (2, True), (3, False), (3, True)})
        self.assertGreater(many, 300)

    def test_closed(self):
        for instruction_set, programs, entries in small_cases(12, 60, 400):
            self.check_closed(instruction_set, programs, entries, distance_table(instruction_set, programs, entries))

    def test_larger_sets(self):
        many = 0
        for instruction_set, programs, entries, code in read_cases(("few of many", "longest is load", "all"), 14, 13,
                                                                   60):
            if plain_state_count(instruction_set.instructions, programs, entries) <= 600:
                table = distance_table(instruction_set, programs, entries)
                self.check_closed(instruction_set, programs, entries, table)
                self.assertEqual(table[0][1], overlay_length(instruction_set, programs, entries))
                self.assertLessEqual(table[0][1], len(code))
                many += 1
        self.assertGreater(many, 5)

    def test_not_more_than_the_state_count(self):
        for instruction_set, programs, entries in small_cases(14, 200, 5000):
            count = plain_state_count(instruction_set.instructions, programs, entries)
            self.assertLessEqual(len(distance_table(instruction_set, programs, entries)), count)

    def test_example(self):
        table = distance_table(SMALL, ((LOAD,), (HALT,)), (0, 1))
        self.assertTrue(same(table[0], ((0, ((0, False, 0), None)), 2)))
        self.assertIn(((1, ((1, False, 0), (1, False, 0))), 0), table)
        # No overlay exists here, and the table shows it.
        table = distance_table(SMALL, ((LOAD, HALT), (HALT,)), (0, 1))
        self.assertIsNone(table[0][1])
        self.check_closed(SMALL, ((LOAD, HALT), (HALT,)), (0, 1), table)

    def test_one_state(self):
        self.assertTrue(same(distance_table(BARE, ((),), (0,)), (((0, ((0, False, 0),)), 0),)))


class TestIsDistanceTable(unittest.TestCase):
    def check_changed(self, case, table, value):
        """Compare with the table, taken as a row in any order."""
        before = repr(value)
        expected = type(value) is tuple and sorted(map(repr, value)) == sorted(map(repr, table))
        self.assertIs(is_distance_table(*case, value), expected, (case, value))
        self.assertEqual(repr(value), before)
        return expected

    def test_any_order(self):
        source = random.Random(21)
        for case in small_cases(22, 60, 500):
            table = distance_table(*case)
            self.assertIs(is_distance_table(*case, table), True)
            self.assertIs(is_distance_table(*case, table[::-1]), True)
            self.assertIs(is_distance_table(*case, tuple(source.sample(table, len(table)))), True)

    def changed_pairs(self, pair):
        """The pair with a distance or a part of the state changed."""
        (offset, decoders), distance = pair
        state = pair[0]
        for other in (None, 0, 1, 2, -1, True, False, "1", (), distance if distance is None else distance + 1):
            yield state, other
        yield from [(state,), (state, distance, distance), [state, distance], (list(state), distance), None, state, ()]
        for other in (offset + 1, -1, True, False, None, "0"):
            yield (other, decoders), distance
        yield (offset, list(decoders)), distance
        yield (offset,), distance
        yield (offset, decoders, ()), distance
        yield (offset, decoders[1:]), distance
        yield (offset, (*decoders, None)), distance
        for at, decoder in enumerate(decoders):
            for other in self.changed_decoders(decoder):
                yield (offset, (*decoders[:at], other, *decoders[at + 1:])), distance

    def changed_decoders(self, decoder):
        if decoder is None:
            return [(0, False, 0), (), 0, False, [], {}]
        done, is_padding, left = decoder
        return [None, list(decoder), (done, is_padding), (done, is_padding, left, 0), (done + 1, is_padding, left),
                (done, not is_padding, left), (done, int(is_padding), left), (done, None, left),
                (done, is_padding, left + 1), (done, is_padding, None), (bool(done), is_padding, left),
                (done, is_padding, bool(left)), ([done], is_padding, left), (done, is_padding, {}), {}]

    def test_changed(self):
        answers = set()
        for case in itertools.islice(small_cases(23, 200, 60), 12):
            table = distance_table(*case)
            for at, pair in enumerate(table):
                without = table[:at] + table[at + 1:]
                self.check_changed(case, table, without)
                self.check_changed(case, table, (*table, pair))
                self.check_changed(case, table, (*without, table[0]))
                for other in self.changed_pairs(pair):
                    answers.add(self.check_changed(case, table, (*table[:at], other, *table[at + 1:])))
        self.assertIn(False, answers)

    def test_any_value(self):
        for case in ((BARE, ((),), (0,)), (SMALL, ((LOAD,), (HALT,)), (0, 1))):
            table = distance_table(*case)
            for value in [*any_values(), list(table), dict(table), (), (table,), (*table[:-1], None), repr(table)]:
                self.assertFalse(self.check_changed(case, table, value))
            for value in any_values():
                self.check_changed(case, table, (value,))
                self.check_changed(case, table, ((value, 0),))
                self.check_changed(case, table, (((0, value), 0),))
                self.check_changed(case, table, (((0, (value,)), 0),))
                self.check_changed(case, table, ((table[0][0], value),))


class TestErrors(OverlayErrorTest, unittest.TestCase):
    def test_start_state(self):
        self.check_all_errors(start_state)

    def test_distance_table(self):
        self.check_all_errors(distance_table)

    def test_is_distance_table(self):
        for value in ((), None, [((0, ()), 0)]):
            self.check_all_errors(lambda *case: is_distance_table(*case, value))

    def test_next_state(self):
        # A state and a byte that are valid for the case without an error.
        state = start_state(BARE, *STATES_5000)
        for wrong in ((state, 0), (None, None), ([], {}), ((), "x"), (1, True)):
            def call(instruction_set, programs, entries):
                valid = (programs, entries) == STATES_5000
                return next_state(instruction_set, programs, entries, *((state, 0) if valid else wrong))
            self.check_all_errors(call)


if __name__ == "__main__":
    unittest.main()
