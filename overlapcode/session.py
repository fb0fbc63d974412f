"""Sessions: a buffer that is edited and asked by lines of text."""

from overlapcode.buffers import CodeBuffer
from overlapcode.checks import is_ascending
from overlapcode.errors import CommandError, OverlapError, TooLong
from overlapcode.fillers import filler
from overlapcode.formats import code_in, format_code, format_steps, is_number, parse_instruction_set
from overlapcode.maps import merge_classes
from overlapcode.programs import executed

MOST_DIGITS = 16
MOST_BYTES_RUN = 100000


class Session:
    """An instruction set with a buffer, at first empty, and the lines that were run."""

    def __init__(self, text):
        self.buffer = CodeBuffer(parse_instruction_set(text))
        self.lines = []

    def run(self, line):
        """Carry out the line and return its answer."""
        if not isinstance(line, str):
            raise CommandError(line)
        try:
            answer = answer_to(self.buffer, line)
        except OverlapError:
            self.lines.append((line, False))
            raise
        self.lines.append((line, True))
        return answer

    def history(self):
        """Return each line that was passed as a string, with whether it raised no error."""
        return tuple(self.lines)


def insert_code(buffer, arguments):
    offset, code = arguments
    buffer.insert(offset, code)
    return "ok"


def delete_bytes(buffer, arguments):
    start, stop = arguments
    buffer.delete(start, stop)
    return "ok"


def replace_bytes(buffer, arguments):
    start, stop, code = arguments
    buffer.replace(start, stop, code)
    return "ok"


def repeat_bytes(buffer, arguments):
    start, stop, times = arguments
    buffer.repeat(start, stop, times)
    return "ok"


def undo_edit(buffer, arguments):
    buffer.undo()
    return "ok"


def tell_length(buffer, arguments):
    return str(buffer.length())


def show_bytes(buffer, arguments):
    start, stop = arguments
    return format_code(buffer.code(start, stop))


def tell_countdown(buffer, arguments):
    entry, offset = arguments
    return number_text(buffer.countdown(entry, offset))


def count_starts(buffer, arguments):
    entry, start, stop = arguments
    return number_text(buffer.start_count(entry, start, stop))


def find_start(buffer, arguments):
    entry, number = arguments
    return number_text(buffer.nth_start(entry, number))


def find_agreement(buffer, arguments):
    entry, other = arguments
    return number_text(buffer.agreement(entry, other))


def find_change(buffer, arguments):
    return number_text(buffer.agreement_after_edit(arguments[0]))


def run_buffer(buffer, arguments):
    entry = arguments[0]
    buffer.check_offset(entry, 0)
    size = buffer.length()
    if size > MOST_BYTES_RUN:
        raise TooLong(size)
    steps = executed(buffer.instruction_set, buffer.code(0, size), entry)
    return "none" if steps is None else format_steps(steps, " / ")


def find_filler(buffer, arguments):
    code = filler(buffer.instruction_set, arguments)
    return "none" if code is None else format_code(code)


def tell_classes(buffer, arguments):
    classes = merge_classes(buffer.whole_map())
    if len(classes) == 0:
        return "none"
    return " ".join([",".join([str(countdown) for countdown in row]) for row in classes])


ACTIONS = {
    "insert": insert_code,
    "delete": delete_bytes,
    "replace": replace_bytes,
    "repeat": repeat_bytes,
    "undo": undo_edit,
    "length": tell_length,
    "show": show_bytes,
    "countdown": tell_countdown,
    "starts": count_starts,
    "nth": find_start,
    "agree": find_agreement,
    "changed": find_change,
    "run": run_buffer,
    "filler": find_filler,
    "classes": tell_classes,
}
# How many numbers stand behind the word of a line that has nothing else.
NUMBER_COUNTS = {
    "delete": 2,
    "repeat": 3,
    "undo": 0,
    "length": 0,
    "show": 2,
    "countdown": 2,
    "starts": 3,
    "nth": 2,
    "agree": 2,
    "changed": 1,
    "run": 1,
    "classes": 0,
}
# How many numbers stand between the word and the code.
NUMBER_COUNTS_BEFORE_CODE = {"insert": 1, "replace": 2}


def answer_to(buffer, line):
    """Return the answer to a line."""
    words = line.split(" ")
    arguments = arguments_in(buffer.instruction_set, words[0], words[1:])
    if arguments is None:
        raise CommandError(line)
    action = ACTIONS[words[0]]
    return action(buffer, arguments)


def arguments_in(instruction_set, word, rest):
    """Return the arguments in the rest of a line that begins with this word, or None if it is no line by its form."""
    if word in NUMBER_COUNTS:
        return numbers_in(rest) if len(rest) == NUMBER_COUNTS[word] else None
    if word in NUMBER_COUNTS_BEFORE_CODE:
        return numbers_and_code_in(instruction_set, rest, NUMBER_COUNTS_BEFORE_CODE[word])
    if word == "filler":
        return countdowns_in(rest)
    return None


def numbers_in(words):
    """Return the numbers that these words are, or None if they are not."""
    if not all([is_number(word, MOST_DIGITS) for word in words]):
        return None
    return tuple([int(word) for word in words])


def numbers_and_code_in(instruction_set, words, count):
    """Return so many numbers and the code behind them, or None if the words are not such."""
    numbers = numbers_in(words[:count])
    code = code_in(instruction_set, " ".join(words[count:]))
    return None if numbers is None or code is None else (*numbers, code)


def countdowns_in(words):
    """Return the countdowns that these words are, or None if they are not."""
    numbers = numbers_in(words)
    return None if numbers is None or len(numbers) == 0 or not is_ascending(numbers) else numbers


def number_text(value):
    """Return the text of a number, or of None."""
    return "none" if value is None else str(value)
