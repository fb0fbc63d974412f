"""Spans: long rows of bytes that are known by their maps and share their parts.

A span is never changed, so an edited row keeps the parts of the old one, and a row of many copies has few parts of its
own. Trees of spans are kept balanced, so even a row of 10 ** 15 bytes is less than a hundred spans deep.
"""

from overlapcode.decoding import walk
from overlapcode.maps import code_map, compose_maps

# A longer row takes longer to be cut, shorter rows need more spans.
MOST_BYTES_OF_ROW = 32


class Span:
    """A row of bytes, or (if `row` is None) two spans, one behind the other."""

    def __init__(self, row, left, right, size, height, summary):
        self.row = row
        self.left = left
        self.right = right
        self.size = size
        self.height = height
        self.summary = summary


def span_of(instruction_set, code):
    """Return a span of the bytes of the code."""
    if len(code) <= MOST_BYTES_OF_ROW:
        return Span(code, None, None, len(code), 0, code_map(instruction_set, code))
    middle = len(code) // 2
    return joined(span_of(instruction_set, code[:middle]), span_of(instruction_set, code[middle:]))


def joined(first, second):
    """Return the first span followed by the second."""
    if first.size == 0:
        return second
    if second.size == 0:
        return first
    if first.height > second.height + 1:
        return balanced(first.left, joined(first.right, second))
    if second.height > first.height + 1:
        return balanced(joined(first, second.left), second.right)
    return pair_of(first, second)


def pair_of(left, right):
    """Return a span of two spans whose heights differ by at most one."""
    height = max(left.height, right.height) + 1
    return Span(None, left, right, left.size + right.size, height, compose_maps(left.summary, right.summary))


def balanced(left, right):
    """Return a balanced span of two spans whose heights differ by at most two."""
    if left.height > right.height + 1:
        if left.left.height >= left.right.height:
            return pair_of(left.left, pair_of(left.right, right))
        return pair_of(pair_of(left.left, left.right.left), pair_of(left.right.right, right))
    if right.height > left.height + 1:
        if right.right.height >= right.left.height:
            return pair_of(pair_of(left, right.left), right.right)
        return pair_of(pair_of(left, right.left.left), pair_of(right.left.right, right.right))
    return pair_of(left, right)


def cut(instruction_set, span, offset):
    """Return the part of the span in front of the offset and the part behind it."""
    if offset == 0:
        return span_of(instruction_set, ()), span
    if offset == span.size:
        return span, span_of(instruction_set, ())
    if span.row is not None:
        return span_of(instruction_set, span.row[:offset]), span_of(instruction_set, span.row[offset:])
    if offset <= span.left.size:
        first, second = cut(instruction_set, span.left, offset)
        return first, joined(second, span.right)
    first, second = cut(instruction_set, span.right, offset - span.left.size)
    return joined(span.left, first), second


def part(instruction_set, span, start, stop):
    """Return the part of the span from `start` up to `stop`."""
    first, rest = cut(instruction_set, span, stop)
    rest, between = cut(instruction_set, first, start)
    return between


def repeated(instruction_set, span, times):
    """Return so many copies of the span."""
    copies = span_of(instruction_set, ())
    doubled = span
    left = times
    # Doubled spans share their halves, so many copies need only a few spans.
    while left > 0:
        if left % 2 == 1:
            copies = joined(copies, doubled)
        doubled = joined(doubled, doubled)
        left //= 2
    return copies


def bytes_of(span):
    """Return the bytes of the span."""
    row = []
    waiting = [span]
    while len(waiting) > 0:
        following = waiting.pop()
        if following.row is None:
            waiting.append(following.right)
            waiting.append(following.left)
        else:
            row.extend(following.row)
    return tuple(row)


def start_in(instruction_set, span, number):
    """Return the offset at which the decoder that enters in front begins its instruction of this number, or None."""
    countdown = 0
    if number >= span.summary[countdown][1]:
        return None
    passed = 0
    while span.row is None:
        behind, begun = span.left.summary[countdown]
        if number < begun:
            span = span.left
        else:
            number -= begun
            passed += span.left.size
            countdown = behind
            span = span.right
    offsets, following = walk(instruction_set, span.row, countdown)
    return passed + offsets[number]


def meeting_in(instruction_set, span, first, second):
    """Return the first offset at which decoders with these countdowns in front of the span have the same one, or None.

    Either countdown may be None. From the offset on at which they are equal or one of them is None, this stays so.
    Therefore the summary of a part tells whether the offset lies in it.
    """
    if is_decided(first, second):
        return decided_offset(first, second, 0)
    if not is_decided(span.summary[first][0], span.summary[second][0]):
        return None
    passed = 0
    while span.row is None:
        behind_first = span.left.summary[first][0]
        behind_second = span.left.summary[second][0]
        if is_decided(behind_first, behind_second):
            span = span.left
        else:
            passed += span.left.size
            first, second = behind_first, behind_second
            span = span.right
    at = 0
    while not is_decided(first, second):
        first = countdown_after(instruction_set, first, span.row[at])
        second = countdown_after(instruction_set, second, span.row[at])
        at += 1
    return decided_offset(first, second, passed + at)


def is_decided(first, second):
    """Return whether these countdowns tell if their decoders ever have the same one."""
    return first is None or second is None or first == second


def decided_offset(first, second, offset):
    """Return this offset if the decided countdowns at it are equal, otherwise None."""
    # Decoders with different countdowns do not stop at the same byte, so both are None only if both came as None.
    return offset if first is not None and first == second else None


def countdown_after(instruction_set, countdown, byte):
    """Return the countdown behind a byte, or None, with this countdown in front of it."""
    if countdown > 0:
        return countdown - 1
    length = instruction_set.length_at(byte)
    return length - 1 if length > 0 else None
