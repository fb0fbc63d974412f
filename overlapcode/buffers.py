"""Buffers: long codes that can be edited and keep the decoding from every entry known."""

from overlapcode.checks import is_integer, is_integer_between
from overlapcode.errors import InvalidCode, InvalidOffset, InvalidTimes, NothingToUndo
from overlapcode.instructions import is_code
from overlapcode.spans import bytes_of, cut, joined, meeting_in, part, repeated, span_of, start_in

MOST_BYTES = 10 ** 15
MOST_BYTES_SHOWN = 100000


class CodeBuffer:
    """A code of an instruction set that can be edited."""

    def __init__(self, instruction_set, code=()):
        check_code(instruction_set, code)
        self.instruction_set = instruction_set
        self.span = span_of(instruction_set, code)
        # For each edit that is not taken back: the span before it, and where it has put how many bytes for how many.
        self.edits = []

    def insert(self, offset, code):
        """Insert the code before the byte at the offset."""
        self.check_offset(offset, 0)
        check_code(self.instruction_set, code)
        self.put(offset, offset, span_of(self.instruction_set, code))

    def delete(self, start, stop):
        """Delete the bytes from `start` up to `stop`."""
        self.check_range(start, stop, 0)
        self.put(start, stop, span_of(self.instruction_set, ()))

    def replace(self, start, stop, code):
        """Replace the bytes from `start` up to `stop` by the code."""
        self.check_range(start, stop, 0)
        check_code(self.instruction_set, code)
        self.put(start, stop, span_of(self.instruction_set, code))

    def repeat(self, start, stop, times):
        """Replace the bytes from `start` up to `stop` by so many copies of them."""
        self.check_range(start, stop, 0)
        if not is_integer(times) or times < 0 or self.span.size + (stop - start) * (times - 1) > MOST_BYTES:
            raise InvalidTimes(times)
        self.put(start, stop, repeated(self.instruction_set, self.between(start, stop), times))

    def undo(self):
        """Take back the last edit that is not yet taken back."""
        if len(self.edits) == 0:
            raise NothingToUndo()
        before, start, old_size, new_size = self.edits.pop()
        self.span = before

    def length(self):
        """Return the number of bytes."""
        return self.span.size

    def code(self, start, stop):
        """Return the bytes from `start` up to `stop`."""
        self.check_range(start, stop, 0)
        if stop - start > MOST_BYTES_SHOWN:
            raise InvalidOffset(stop)
        return bytes_of(self.between(start, stop))

    def countdown(self, entry, offset):
        """Return the countdown at the offset of the decoder from the entry, or None."""
        self.check_range(entry, offset, 0)
        return self.countdown_between(entry, offset)

    def start_count(self, entry, start, stop):
        """Return how many instructions the decoder from the entry begins from `start` up to `stop`."""
        self.check_offset(entry, 0)
        self.check_range(start, stop, entry)
        countdown = self.countdown_between(entry, start)
        if countdown is None:
            return 0
        behind, begun = self.between(start, stop).summary[countdown]
        return begun

    def nth_start(self, entry, number):
        """Return the offset at which the decoder from the entry begins its instruction of this number, or None."""
        self.check_offset(entry, 0)
        offset = start_in(self.instruction_set, self.between(entry, self.span.size), number)
        return None if offset is None else entry + offset

    def agreement(self, entry, other):
        """Return the first offset at which both decoders have the same countdown, or None."""
        self.check_offset(entry, 0)
        self.check_offset(other, 0)
        low, high = min(entry, other), max(entry, other)
        return self.meeting_from(high, self.countdown_between(low, high), 0)

    def agreement_after_edit(self, entry):
        """Return the first offset behind the last edit at which the decoding is as before it, or None."""
        if len(self.edits) == 0:
            raise NothingToUndo()
        before, start, old_size, new_size = self.edits[-1]
        if not is_integer_between(entry, 0, start):
            raise InvalidOffset(entry)
        old_part = part(self.instruction_set, before, entry, start + old_size)
        new_stop = start + new_size
        return self.meeting_from(new_stop, old_part.summary[0][0], self.countdown_between(entry, new_stop))

    def whole_map(self):
        """Return the map of all bytes."""
        return self.span.summary

    def check_offset(self, value, least):
        """Raise an error if this is not an offset from the least one on."""
        if not is_integer_between(value, least, self.span.size):
            raise InvalidOffset(value)

    def check_range(self, start, stop, least):
        """Raise an error if these are not two offsets from the least one on, in order."""
        self.check_offset(start, least)
        self.check_offset(stop, start)

    def put(self, start, stop, span):
        """Put the span in the place of the bytes from `start` up to `stop`."""
        before = self.span
        first, rest = cut(self.instruction_set, before, start)
        replaced, last = cut(self.instruction_set, rest, stop - start)
        self.span = joined(joined(first, span), last)
        self.edits.append((before, start, stop - start, span.size))

    def between(self, start, stop):
        """Return the span from `start` up to `stop`."""
        return part(self.instruction_set, self.span, start, stop)

    def countdown_between(self, entry, offset):
        """Return the countdown at the offset, or None, for an entry that is not behind it."""
        countdown, begun = self.between(entry, offset).summary[0]
        return countdown

    def meeting_from(self, offset, first, second):
        """Return the first offset from this one on where decoders with these countdowns here have the same, or None."""
        behind = self.between(offset, self.span.size)
        passed = meeting_in(self.instruction_set, behind, first, second)
        return None if passed is None else offset + passed


def check_code(instruction_set, code):
    """Raise an error if this is not a code."""
    if not is_code(instruction_set, code):
        raise InvalidCode(code)
