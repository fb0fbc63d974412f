import random
import unittest

from overlapcode.buffers import CodeBuffer
from overlapcode.errors import (CommandError, InvalidCountdowns, InvalidOffset, InvalidTimes, NothingToUndo,
                                OverlapError,
                                ParseError, TooLong)
from overlapcode.fillers import filler
from overlapcode.formats import format_code, format_instruction_set, format_program
from overlapcode.instructions import InstructionSet
from overlapcode.maps import code_map, merge_classes
from overlapcode.programs import executed
from overlapcode.session import Session
from tests.samples import SETS, any_values, random_code, same

SMALL = InstructionSet(*SETS["small"])
SMALL_TEXT = format_instruction_set(SMALL)
EDITS = ("insert", "delete", "replace", "repeat", "undo")
QUERIES = {"countdown": "countdown", "starts": "start_count", "nth": "nth_start", "agree": "agreement",
           "changed": "agreement_after_edit"}


def outcome(call, *arguments):
    """What a call returns or raises, in a form that can be compared."""
    try:
        return "returned", call(*arguments)
    except OverlapError as error:
        return type(error).__name__, vars(error)


class LedSession:
    """A session beside a buffer on which the same is done by calls."""

    def __init__(self, instruction_set):
        self.instruction_set = instruction_set
        self.session = Session(format_instruction_set(instruction_set))
        self.buffer = CodeBuffer(instruction_set)
        self.lines = []

    def expected(self, word, numbers, code):
        """The answer by the functions and methods that the document names."""
        if word in EDITS:
            arguments = numbers if code is None else (*numbers, code)
            getattr(self.buffer, word)(*arguments)
            return "ok"
        if word in QUERIES:
            answer = getattr(self.buffer, QUERIES[word])(*numbers)
            return "none" if answer is None else str(answer)
        if word == "length":
            return str(self.buffer.length())
        if word == "show":
            return format_code(self.buffer.code(*numbers))
        if word == "run":
            return self.expected_run(numbers[0])
        if word == "filler":
            answer = filler(self.instruction_set, numbers)
            return "none" if answer is None else format_code(answer)
        return self.expected_classes()

    def expected_run(self, entry):
        self.buffer.countdown(entry, entry)
        size = self.buffer.length()
        if size > 100000:
            raise TooLong(size)
        steps = executed(self.instruction_set, self.buffer.code(0, size), entry)
        return "none" if steps is None else " / ".join(format_program(steps).split("\n"))

    def expected_classes(self):
        size = self.buffer.length()
        longest = self.instruction_set.longest()
        if size <= 1000:
            classes = merge_classes(code_map(self.instruction_set, self.buffer.code(0, size)))
        else:
            # A decoder with a countdown in front of a long buffer is one that enters there.
            pairs = tuple((self.buffer.countdown(entry, size), 0) for entry in range(longest))
            classes = merge_classes(pairs)
        return " ".join(",".join(map(str, row)) for row in classes) or "none"

    def do(self, word, *numbers, code=None):
        """Run a line and return the outcomes of the session and of the calls."""
        parts = [word, *map(str, numbers)]
        if code is not None:
            parts.append(format_code(code))
        line = " ".join(parts)
        answers = outcome(self.session.run, line), outcome(self.expected, word, numbers, code)
        self.lines.append((line, answers[0][0] == "returned"))
        return answers


class SessionTest(unittest.TestCase):
    def check(self, led, word, *numbers, code=None):
        """Run a line and compare with the calls; return the outcome."""
        answer, expected = led.do(word, *numbers, code=code)
        self.assertTrue(same(answer, expected), (word, numbers, code, answer, expected))
        self.assertTrue(same(led.session.history(), tuple(led.lines)))
        return answer

    def check_buffer(self, led):
        self.assertEqual(led.session.run("length"), str(led.buffer.length()))
        led.lines.append(("length", True))

    def random_line(self, source, led):
        """The parts of a line, mostly without an error."""
        size = led.buffer.length()
        low, middle, high = sorted(source.randint(0, size + source.choice((0, 0, 0, 1))) for place in range(3))
        size = source.choice((0, 1, 2, 4, 9))
        code = random_code(source, led.instruction_set.byte_count, led.instruction_set.instructions, size)
        longest = led.instruction_set.longest()
        countdowns = sorted(source.sample(range(longest + 1), source.randint(1, min(3, longest))))
        return source.choice([
            ("insert", (low,), code), ("insert", (low,), code), ("delete", (low, middle), None),
            ("replace", (low, middle), code), ("repeat", (low, middle, source.choice((0, 1, 2, 3))), None),
            ("undo", (), None), ("length", (), None), ("show", (low, high), None), ("countdown", (low, high), None),
            ("countdown", (high, low), None), ("starts", (low, middle, high), None),
            ("nth", (low, source.randint(0, 5)), None),
            ("agree", (low, high), None), ("agree", (high, low), None), ("changed", (low,), None),
            ("run", (low,), None),
            ("run", (high,), None),
            ("filler", tuple(countdowns), None), ("classes", (), None),
        ])


class TestLines(SessionTest):
    def test_random_lines(self):
        source = random.Random(1)
        seen = set()
        for row in SETS.values():
            led = LedSession(InstructionSet(*row))
            for step in range(150):
                word, numbers, code = self.random_line(source, led)
                if led.buffer.length() > 60:
                    word, numbers, code = "delete", (0, 50), None
                answer = self.check(led, word, *numbers, code=code)
                seen.add((word, answer[0]))
                if answer[0] != "returned":
                    self.check_buffer(led)
            self.assertEqual(led.session.run(f"show 0 {led.buffer.length()}"),
                             format_code(led.buffer.code(0, led.buffer.length())))
        words = [*EDITS, *QUERIES, "length", "show", "run", "filler", "classes"]
        self.assertLessEqual({(word, "returned") for word in words}, seen)
        self.assertLessEqual({("undo", "NothingToUndo"), ("changed", "NothingToUndo"), ("countdown", "InvalidOffset"),
                              ("run", "InvalidOffset"), ("filler", "InvalidCountdowns")}, seen)

    def test_known_lines(self):
        session = Session(SMALL_TEXT)
        for line, answer in (
            ("length", "0"), ("show 0 0", "-"), ("run 0", "-"), ("classes", "0 1"), ("insert 0 1 2 3", "ok"),
            ("length", "3"), ("show 0 3", "1 2 3"), ("show 1 2", "2"), ("run 0", "halt"), ("run 1", "load 3"),
            ("run 3", "-"),
            ("classes", "0,1"), ("insert 3 -", "ok"), ("changed 0", "3"), ("undo", "ok"), ("countdown 0 1", "1"),
            ("starts 0 0 3", "2"), ("nth 0 1", "2"), ("nth 0 2", "none"), ("agree 0 1", "3"), ("agree 1 0", "3"),
            ("repeat 0 3 100000000000000", "ok"), ("length", "300000000000000"),
            ("starts 0 0 300000000000000", "200000000000000"),
            ("changed 0", "300000000000000"), ("undo", "ok"), ("replace 0 3 -", "ok"), ("replace 0 0 2", "ok"),
            ("run 0", "none"),
            ("replace 0 1 2 1 2 0 3", "ok"), ("run 0", "load 1 / load 0 / halt"), ("delete 1 5", "ok"),
            ("show 0 1", "2"),
            ("filler 0", "-"), ("filler 1", "0"), ("filler 0 1", "0"), ("countdown 0 1", "1"), ("agree 0 1", "none"),
        ):
            self.assertEqual(session.run(line), answer, line)
        self.assertTrue(all(answer is True for line, answer in session.history()))

    def test_none(self):
        led = LedSession(InstructionSet(*SETS["zero is invalid"]))
        for line in ("insert 0 0 0 0 0 0 0", "replace 0 6 0 2 0"):
            led.session.run(line)
        self.assertEqual(led.session.run("classes"), "1,3 4")
        led.session.run("replace 0 3 0 0 0 0 0")
        self.assertEqual(led.session.run("classes"), "none")
        self.assertEqual(led.session.run("countdown 0 1"), "none")
        self.assertEqual(led.session.run("agree 0 1"), "none")
        self.assertEqual(led.session.run("run 0"), "none")
        bare = Session(format_instruction_set(InstructionSet(*SETS["no padding"])))
        self.assertEqual(bare.run("filler 0 1"), "none")
        self.assertEqual(bare.run("filler 2"), "0 0")

    def test_long_buffers(self):
        source = random.Random(2)
        for name in ("small", "wide", "zero is load", "longest", "all", "few of many"):
            led = LedSession(InstructionSet(*SETS[name]))
            for size in (5, 8, 4):
                code = random_code(source, *SETS[name], size)
                self.check(led, "insert", 0, code=code)
                self.check(led, "repeat", 0, size, source.randint(10 ** 12, 5 * 10 ** 13))
            for step in range(60):
                word, numbers, code = self.random_line(source, led)
                if word not in ("show", "repeat", "delete"):
                    self.check(led, word, *numbers, code=code)
                low = source.randint(0, led.buffer.length())
                self.check(led, "show", low, low + 30)
                self.check(led, "nth", low, source.randint(0, 10 ** 15))
            self.check(led, "classes")

    def test_to_the_limit(self):
        led = LedSession(SMALL)
        self.check(led, "insert", 0, code=(1,))
        self.assertEqual(self.check(led, "repeat", 0, 1, 10 ** 15 + 1), ("InvalidTimes", {"value": 10 ** 15 + 1}))
        self.assertEqual(self.check(led, "repeat", 0, 1, 10 ** 15), ("returned", "ok"))
        self.assertEqual(self.check(led, "length"), ("returned", "1000000000000000"))
        self.assertEqual(self.check(led, "repeat", 0, 0, 9999999999999999), ("returned", "ok"))
        self.check(led, "classes")

    def test_run_of_many_bytes(self):
        led = LedSession(SMALL)
        self.check(led, "insert", 0, code=(3, 0))
        self.check(led, "repeat", 0, 2, 50000)
        answer = self.check(led, "run", 0)
        self.assertEqual(answer, ("returned", " / ".join(["halt"] * 50000)))
        self.assertEqual(self.check(led, "run", 100000), ("returned", "-"))
        self.assertEqual(self.check(led, "run", 100001), ("InvalidOffset", {"value": 100001}))
        self.check(led, "insert", 0, code=(0,))
        self.assertEqual(self.check(led, "run", 0), ("TooLong", {"size": 100001}))
        self.assertEqual(self.check(led, "run", 100001), ("TooLong", {"size": 100001}))
        self.assertEqual(self.check(led, "run", 100002), ("InvalidOffset", {"value": 100002}))
        self.assertEqual(self.check(led, "show", 0, 100001), ("InvalidOffset", {"value": 100001}))
        self.check(led, "undo")
        self.assertEqual(self.check(led, "run", 1), ("returned", " / ".join(["halt"] * 49999)))


class TestErrors(SessionTest):
    def check_wrong(self, session, line):
        before = repr(session.history())
        with self.assertRaises(OverlapError, msg=line) as caught:
            session.run(line)
        self.assertIs(type(caught.exception), CommandError, line)
        self.assertIs(caught.exception.line, line)
        return before

    def filled(self):
        session = Session(SMALL_TEXT)
        session.run("insert 0 1 2 3 0")
        session.run("insert 2 3")
        return session

    def test_lines_of_no_form(self):
        session = self.filled()
        good = ["insert 0 1", "insert 0 -", "delete 0 1", "replace 0 1 2 3", "repeat 0 1 2", "undo", "length",
                "show 0 1", "countdown 0 1", "starts 0 0 1", "nth 0 0", "agree 0 1", "changed 0", "run 0",
                "filler 0 1", "filler 1", "classes"]
        wrong = ["", " ", "\n", "insert", "insert 0", "insert 0 ", "insert  0 1", "insert 0  1", "insert 0 1  2",
                 "insert 0 4", "insert 0 00", "insert 0 1 -", "insert 0 - 1", "insert 0 - -", "insert 0 1\n2",
                 "insert 0 ?", "insert 1", "insert - 1", "insert 0 1,2", "insert 00 1", "insert 12345678901234567 1",
                 "replace 0 1", "replace 0", "replace", "replace 0 1 9", "replace 0 1 ", "repeat 0 1",
                 "repeat 0 1 2 3", "repeat 0 1 12345678901234567", "repeat 0 1 -1", "repeat 0 1 02", "delete 0",
                 "delete 0 1 2", "delete a 1", "delete 0 -", "undo 1", "undo -", "length 0", "show 0", "show",
                 "show 0 1 2", "countdown 0", "starts 0 1", "nth 0", "nth 0 -1", "nth 0 1.0", "agree 0", "agree 0 1 2",
                 "changed", "changed 0 1", "run", "run 0 1", "filler", "filler ", "filler 1 0", "filler 0 0",
                 "filler 0 1 1", "filler -", "filler 00", "filler 0,1", "classes 0", "history", "Length", "LENGTH",
                 "lengthy", "start 0 0 1", "start_count 0 0 1", "code 0 1", "nth_start 0 0", "agreement 0 1", "help",
                 "?", "-", "0", "0 1", "/ run 0"]
        for line in good:
            wrong += [line + " ", " " + line, line + "\n", "\n" + line, line.upper(), line.replace(" ", "  ", 1) + " ",
                      line + "\t", line + " x", line + " -1", "x" + line, line[0] + " " + line[1:], line + "\n" + line]
        number = 2
        for line in wrong:
            self.check_wrong(session, line)
            self.assertEqual(len(session.history()), number + 1)
            self.assertTrue(same(session.history()[-1], (line, False)))
            number += 1
        self.assertEqual(session.run("show 0 5"), "1 2 3 3 0")
        self.assertEqual(session.run("undo"), "ok")
        self.assertEqual(session.run("undo"), "ok")
        with self.assertRaises(NothingToUndo):
            session.run("undo")

    def test_digits(self):
        session = self.filled()
        for digits in ("0", "9", "10", "9999999999999999"):
            self.assertIn(session.run(f"nth 0 {digits}"), ("0", "none"))
        with self.assertRaises(InvalidOffset) as caught:
            session.run("show 9999999999999999 0")
        self.assertEqual(caught.exception.value, 9999999999999999)
        for digits in ("10000000000000000", "00", "01", "+1", "1_0", "0x1", "1 "):
            self.check_wrong(session, f"nth 0 {digits}")
        # A code has numbers of its own format.
        for digits in ("4", "03", "1000000"):
            self.check_wrong(session, f"insert 0 {digits}")

    def test_values_that_are_no_strings(self):
        session = self.filled()
        for value in any_values():
            if type(value) is not str:
                before = self.check_wrong(session, value)
                self.assertEqual(repr(session.history()), before)
        self.assertEqual(session.run("show 0 5"), "1 2 3 3 0")

    def test_any_string(self):
        session = self.filled()
        for value in any_values():
            if type(value) is str:
                self.check_wrong(session, value)

    def test_errors_of_the_functions(self):
        for line, kind, value in (
            ("insert 6 1", InvalidOffset, 6), ("delete 4 3", InvalidOffset, 3), ("delete 7 6", InvalidOffset, 7),
            ("replace 0 6 1", InvalidOffset, 6), ("repeat 6 0 1", InvalidOffset, 6),
            ("repeat 0 5 9999999999999999", InvalidTimes, 9999999999999999),
            ("show 3 2", InvalidOffset, 2), ("countdown 2 1", InvalidOffset, 1), ("starts 2 1 0", InvalidOffset, 1),
            ("starts 2 3 6", InvalidOffset, 6), ("nth 6 0", InvalidOffset, 6), ("agree 0 6", InvalidOffset, 6),
            ("agree 9 6", InvalidOffset, 9),
            ("changed 3", InvalidOffset, 3), ("run 6", InvalidOffset, 6), ("filler 2", InvalidCountdowns, (2,)),
            ("filler 0 1 2 3", InvalidCountdowns, (0, 1, 2, 3)),
        ):
            session = self.filled()
            with self.assertRaises(OverlapError, msg=line) as caught:
                session.run(line)
            self.assertIs(type(caught.exception), kind, line)
            self.assertTrue(same(caught.exception.value, value), line)
            self.assertEqual(session.run("show 0 5"), "1 2 3 3 0")
            self.assertEqual(session.run("undo"), "ok")
            self.assertEqual(session.run("show 0 4"), "1 2 3 0")
            self.assertTrue(same(session.history()[2], (line, False)))

    def test_changed_without_an_edit(self):
        session = Session(SMALL_TEXT)
        for line in ("changed 0", "changed 5", "undo"):
            with self.assertRaises(NothingToUndo):
                session.run(line)
        session.run("insert 0 1")
        session.run("undo")
        with self.assertRaises(NothingToUndo):
            session.run("changed 0")
        self.assertEqual([answer for line, answer in session.history()], [False, False, False, True, True, False])

    def test_texts_that_are_no_instruction_set(self):
        for text, line in (("bytes 4", 1), ("", 0), (SMALL_TEXT + "\n", 5), (None, 0), (SMALL, 0), ([SMALL_TEXT], 0),
                           ("bytes 1\n0 a 1", 2)):
            with self.assertRaises(OverlapError) as caught:
                Session(text)
            self.assertIs(type(caught.exception), ParseError)
            self.assertEqual(caught.exception.line, line)
        for value in any_values():
            with self.assertRaises(ParseError) as caught:
                Session(value)
            self.assertEqual(caught.exception.line, 0)


class TestHistory(SessionTest):
    def test_lines_in_order(self):
        session = Session(SMALL_TEXT)
        self.assertTrue(same(session.history(), ()))
        expected = []
        for line in ("length", "length", "undo", "insert 0 1", "nonsense", "undo", "undo", "length", "nonsense"):
            answer = outcome(session.run, line)
            expected.append((line, answer[0] == "returned"))
            self.assertTrue(same(session.history(), tuple(expected)))
        self.assertEqual([answer for line, answer in expected],
                         [True, True, False, True, False, True, False, True, False])

    def test_what_was_returned_does_not_change(self):
        session = Session(SMALL_TEXT)
        session.run("length")
        before = session.history()
        session.run("insert 0 1")
        outcome(session.run, "x")
        self.assertEqual(before, (("length", True),))
        self.assertEqual(session.history(), (("length", True), ("insert 0 1", True), ("x", False)))

    def test_two_sessions_of_one_text(self):
        first, second = Session(SMALL_TEXT), Session(SMALL_TEXT)
        first.run("insert 0 1 2 3")
        self.assertEqual(second.run("length"), "0")
        self.assertEqual(second.history(), (("length", True),))
        with self.assertRaises(NothingToUndo):
            second.run("undo")
        self.assertEqual(first.run("show 0 3"), "1 2 3")
        self.assertEqual(len(first.history()), 2)

    def test_interface(self):
        self.assertIn("run", vars(Session))
        self.assertIn("history", vars(Session))
        session = Session(text=SMALL_TEXT)
        self.assertEqual(session.run(line="length"), "0")


if __name__ == "__main__":
    unittest.main()
