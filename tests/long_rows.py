"""Long rows of bytes for comparison with long buffers, written apart from the program.

A row is a list of runs (unit, size): the unit is repeated until the run has so many bytes, so its last copy may be cut.
Decoders go along the copies of a run, and when their countdowns come again in front of a copy, whole circles are taken
at once.
"""

from tests.plain import go_along


class LongRow:
    def __init__(self, instructions, runs=()):
        self.instructions = instructions
        self.runs = [run for run in runs if run[1] > 0]

    def size(self):
        return sum(size for unit, size in self.runs)

    def slice(self, start, stop):
        """The part of the row from `start` up to `stop`, as a row."""
        runs = []
        offset = 0
        for unit, size in self.runs:
            low, high = max(start - offset, 0), min(stop - offset, size)
            if low < high:
                shift = low % len(unit)
                runs.append((unit[shift:] + unit[:shift], high - low))
            offset += size
        return LongRow(self.instructions, runs)

    def bytes(self):
        row = []
        for unit, size in self.runs:
            row.extend((unit * (size // len(unit) + 1))[:size])
        return tuple(row)

    def replaced(self, start, stop, runs):
        size = self.size()
        return LongRow(self.instructions, self.slice(0, start).runs + runs + self.slice(stop, size).runs)

    def repeated(self, start, stop, times):
        """The row with copies of a part; many copies are made only of parts that can be written out."""
        part = self.slice(start, stop)
        if part.size() <= 100:
            return self.replaced(start, stop, [(part.bytes() or (0,), part.size() * times)])
        return self.replaced(start, stop, part.runs * times)

    def behind(self, countdown):
        """(countdown behind the row or None, number of instructions begun) for this countdown in front of it."""
        total = 0
        for unit, size in self.runs:
            copies, rest = divmod(size, len(unit))
            seen = {}
            while copies > 0 and countdown is not None:
                if countdown in seen:
                    past, counted = seen[countdown]
                    circles = copies // (past - copies)
                    total += circles * (total - counted)
                    copies -= circles * (past - copies)
                    seen = {}
                    if copies == 0:
                        break
                seen[countdown] = copies, total
                countdown, begun = self.along(unit, countdown)
                total += begun
                copies -= 1
            if countdown is not None and rest:
                countdown, begun = self.along(unit[:rest], countdown)
                total += begun
        return countdown, total

    def along(self, code, countdown):
        countdowns, begun, read, ending = go_along(self.instructions, code, 0, countdown)
        return countdowns[len(code)], len(begun)

    def countdown(self, entry, offset):
        return self.slice(entry, offset).behind(0)[0]

    def start_count(self, entry, start, stop):
        countdown = self.countdown(entry, start)
        return 0 if countdown is None else self.slice(start, stop).behind(countdown)[1]

    def agreement(self, entry, other):
        high = max(entry, other)
        found = self.slice(high, self.size()).meeting(self.countdown(min(entry, other), high), 0)
        return None if found is None else high + found

    def meeting(self, first, second):
        """The first offset where decoders with these countdowns in front of the row have the same, or None."""
        passed = 0
        for unit, size in self.runs:
            if first is None or second is None:
                return None
            found, first, second = self.meeting_in_run(unit, size, first, second)
            if found is not None:
                return passed + found
            passed += size
        return passed if first is not None and first == second else None

    def meeting_in_run(self, unit, size, first, second):
        """(offset of the run or None, countdowns behind it); the offset behind the run does not count."""
        gone = 0
        seen = set()
        while gone + len(unit) <= size and (first, second) not in seen and None not in (first, second):
            seen.add((first, second))
            found, first, second = self.meeting_in_code(unit, first, second)
            if found is not None:
                return gone + found, first, second
            gone += len(unit)
        if None in (first, second):
            return None, first, second
        # The decoders go round without meeting, or the last copy is cut.
        copies = (size - gone) // len(unit)
        circles = LongRow(self.instructions, [(unit, copies * len(unit))])
        first, second = circles.behind(first)[0], circles.behind(second)[0]
        found, first, second = self.meeting_in_code(unit[:size % len(unit)], first, second)
        return None if found is None else gone + circles.size() + found, first, second

    def meeting_in_code(self, code, first, second):
        rows = [go_along(self.instructions, code, 0, countdown)[0] for countdown in (first, second)]
        for offset in range(len(code)):
            if rows[0][offset] is not None and rows[0][offset] == rows[1][offset]:
                return offset, None, None
        return None, rows[0][len(code)], rows[1][len(code)]
