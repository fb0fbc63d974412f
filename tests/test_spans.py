"""Spans stay balanced, whatever is done to them: only so do they stay shallow enough for long buffers."""

import random
import unittest

from overlapcode.buffers import CodeBuffer
from overlapcode.instructions import InstructionSet
from overlapcode.maps import code_map
from overlapcode.spans import MOST_BYTES_OF_ROW, bytes_of, cut, joined, part, repeated, span_of
from tests.samples import SETS, random_code

SMALL = InstructionSet(*SETS["small"])


class SpanTest(unittest.TestCase):
    def check_balanced(self, span):
        """Check each span of the tree once, as trees share their parts."""
        seen = set()
        waiting = [span]
        while waiting:
            node = waiting.pop()
            if id(node) in seen:
                continue
            seen.add(id(node))
            if node.row is not None:
                self.assertEqual((node.height, node.size), (0, len(node.row)))
                self.assertLessEqual(node.size, MOST_BYTES_OF_ROW)
                self.assertTrue(node.size > 0 or node is span)
                continue
            self.assertLessEqual(abs(node.left.height - node.right.height), 1)
            self.assertEqual(node.height, max(node.left.height, node.right.height) + 1)
            self.assertEqual(node.size, node.left.size + node.right.size)
            waiting += [node.left, node.right]
        return len(seen)

    def check(self, span, code):
        self.check_balanced(span)
        self.assertEqual(bytes_of(span), code)
        self.assertEqual(span.summary, code_map(SMALL, code))


class TestBalance(SpanTest):
    def test_codes(self):
        source = random.Random(1)
        for size in [*range(70), 100, 129, 1000]:
            code = random_code(source, *SETS["small"], size)
            self.check(span_of(SMALL, code), code)

    def test_joined_spans_of_any_height(self):
        source = random.Random(2)
        codes = [random_code(source, *SETS["small"], size) for size in (0, 1, 32, 33, 65, 200, 1000, 3000)]
        for first in codes:
            for second in codes:
                self.check(joined(span_of(SMALL, first), span_of(SMALL, second)), first + second)

    def test_one_byte_at_a_time(self):
        source = random.Random(3)
        for at_front in (True, False):
            span, code = span_of(SMALL, ()), ()
            for byte in random_code(source, *SETS["small"], 300):
                one = span_of(SMALL, (byte,))
                span, code = (joined(one, span), (byte, *code)) if at_front else (joined(span, one), (*code, byte))
            self.check(span, code)
            self.assertLessEqual(span.height, 12)

    def test_cut_everywhere(self):
        source = random.Random(4)
        code = random_code(source, *SETS["small"], 150)
        span = span_of(SMALL, code[:40])
        for byte in code[40:]:
            span = joined(span, span_of(SMALL, (byte,)))
        for offset in range(len(code) + 1):
            first, second = cut(SMALL, span, offset)
            self.check(first, code[:offset])
            self.check(second, code[offset:])
            self.check(joined(second, first), code[offset:] + code[:offset])
            self.check(part(SMALL, span, offset // 2, offset), code[offset // 2:offset])

    def test_repeated(self):
        source = random.Random(5)
        for size in (0, 1, 3, 40):
            code = random_code(source, *SETS["small"], size)
            for times in (0, 1, 2, 3, 7, 8, 100):
                self.check(repeated(SMALL, span_of(SMALL, code), times), code * times)

    def test_long_buffers_stay_shallow(self):
        source = random.Random(6)
        buffer = CodeBuffer(SMALL, (1, 2, 3))
        for edit in range(200):
            size = buffer.length()
            start, stop = sorted(source.randint(0, size) for place in range(2))
            if size < 10 ** 14:
                buffer.repeat(start, stop, source.randint(1, 7))
            else:
                buffer.replace(start, stop, (source.randrange(4),))
            # A balanced tree of n rows is at most 1.45 times as high as the logarithm of n; 10 ** 15 is below 2 ** 50.
            self.assertLessEqual(buffer.span.height, 73)
        self.assertLess(self.check_balanced(buffer.span), 20000)
        buffer.replace(0, buffer.length(), (1,))
        buffer.repeat(0, 1, 10 ** 15)
        self.assertLess(self.check_balanced(buffer.span), 200)


if __name__ == "__main__":
    unittest.main()
