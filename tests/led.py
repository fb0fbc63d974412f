"""Buffers that are led beside the plain tuple of their bytes."""

from overlapcode.buffers import CodeBuffer
from tests.samples import random_code

KINDS = ("insert", "delete", "replace", "repeat")


class LedBuffer:
    """A buffer, its code, and (code before, start, old stop, new stop) for each edit that is not taken back."""

    def __init__(self, instruction_set, code=()):
        self.instruction_set = instruction_set
        self.buffer = CodeBuffer(instruction_set, code)
        self.code = code
        self.edits = []

    def put(self, start, stop, new):
        self.edits.append((self.code, start, stop, start + len(new)))
        self.code = self.code[:start] + new + self.code[stop:]

    def insert(self, offset, code):
        answer = self.buffer.insert(offset, code)
        self.put(offset, offset, code)
        return answer

    def delete(self, start, stop):
        answer = self.buffer.delete(start, stop)
        self.put(start, stop, ())
        return answer

    def replace(self, start, stop, code):
        answer = self.buffer.replace(start, stop, code)
        self.put(start, stop, code)
        return answer

    def repeat(self, start, stop, times):
        answer = self.buffer.repeat(start, stop, times)
        self.put(start, stop, self.code[start:stop] * times)
        return answer

    def undo(self):
        answer = self.buffer.undo()
        self.code = self.edits.pop()[0]
        return answer

    def random_range(self, source):
        offsets = sorted(source.randint(0, len(self.code)) for place in range(2))
        return (offsets[0], offsets[0]) if source.random() < 0.15 else tuple(offsets)

    def random_edit(self, source, kinds=KINDS, most=60):
        """Make an edit of one of these kinds; codes above `most` bytes are made shorter. Return what it returns."""
        kind = source.choice(kinds)
        start, stop = self.random_range(source)
        if len(self.code) > most:
            kind = source.choice(("delete", "replace"))
            start, stop = 0, len(self.code) - source.randint(0, most // 2)
        size = source.choice((0, 1, 1, 2, 3, 5, 8, 13))
        code = random_code(source, self.instruction_set.byte_count, self.instruction_set.instructions, size)
        if kind == "insert":
            return self.insert(start, code)
        if kind == "delete":
            return self.delete(start, stop)
        if kind == "replace":
            return self.replace(start, stop, code)
        return self.repeat(start, stop, source.choice((0, 1, 1, 2, 3, 4)))
