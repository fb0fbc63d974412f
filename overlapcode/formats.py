"""Text formats of codes, instruction sets and programs."""

from overlapcode.decoding import walk
from overlapcode.errors import InvalidInstructionSet, ParseError
from overlapcode.instructions import InstructionSet, is_code, is_name
from overlapcode.programs import is_program, is_step, step_lengths

EMPTY = "-"
ANY_BYTE = "?"
MOST_DIGITS = 6


def format_code(code):
    """Return the text of the code."""
    return text_of([str(byte) for byte in code], " ")


def format_instruction_set(instruction_set):
    """Return the text of the instruction set."""
    lines = [f"bytes {instruction_set.byte_count}"]
    for opcode, name, length, is_padding in instruction_set.instructions:
        line = f"{opcode} {name} {length}"
        lines.append(f"{line} padding" if is_padding else line)
    return "\n".join(lines)


def format_program(program):
    """Return the text of the program."""
    return format_steps(program, "\n")


def format_listing(instruction_set, code, entries):
    """Return one line for each byte: its offset, the byte, and what each decoder does there."""
    columns = [decoder_marks(instruction_set, code, entry) for entry in entries]
    lines = []
    for offset, byte in enumerate(code):
        marks = [column[offset] for column in columns]
        lines.append(" ".join([str(offset), str(byte), *marks]))
    return text_of(lines, "\n")


def parse_code(instruction_set, text):
    """Return the code that has this text."""
    lines = lines_of(text)
    code = code_in(instruction_set, lines[0])
    if code is None:
        raise ParseError(0)
    if len(lines) > 1:
        raise ParseError(1)
    return code


def parse_instruction_set(text):
    """Return the instruction set that has this text."""
    lines = lines_of(text)
    byte_count = byte_count_in(lines[0])
    if byte_count is None:
        raise ParseError(0)
    instructions = []
    for number, line in enumerate(lines[1:], start=1):
        instruction = instruction_in(line)
        if instruction is None:
            raise ParseError(number)
        instructions.append(instruction)
    try:
        return InstructionSet(byte_count, tuple(instructions))
    except InvalidInstructionSet:
        raise ParseError(len(lines)) from None


def parse_program(instruction_set, text):
    """Return the program that has this text."""
    lines = lines_of(text)
    if lines == [EMPTY]:
        return ()
    steps = []
    for number, line in enumerate(lines):
        step = step_in(instruction_set, line)
        if step is None:
            raise ParseError(number)
        steps.append(step)
    if not is_program(instruction_set, tuple(steps)):
        raise ParseError(len(lines))
    return tuple(steps)


def format_steps(steps, separator):
    """Return the text of any number of steps with this separator between them."""
    return text_of([step_line(name, operands) for name, operands in steps], separator)


def text_of(parts, separator):
    """Return the parts with the separator between them, or the text of nothing."""
    return separator.join(parts) if len(parts) > 0 else EMPTY


def step_line(name, operands):
    """Return the line of a step."""
    return " ".join([name, *[ANY_BYTE if item is None else str(item) for item in operands]])


def decoder_marks(instruction_set, code, entry):
    """Return, for each byte, what the decoder from the entry does there."""
    names = {opcode: name for opcode, name, length, is_padding in instruction_set.instructions}
    begun, following = walk(instruction_set, code, entry)
    marks = ["."] * len(code)
    for offset in range(entry, min(following, len(code))):
        marks[offset] = "+"
    for offset in begun:
        marks[offset] = names[code[offset]]
    if following < len(code):
        marks[following] = "!"
    return marks


def lines_of(text):
    """Return the lines of a text that may be anything."""
    if not isinstance(text, str):
        raise ParseError(0)
    return text.split("\n")


def is_number(word, most_digits):
    """Return whether this is a number of up to so many digits without leading zeros."""
    if not 1 <= len(word) <= most_digits or not all(["0" <= letter <= "9" for letter in word]):
        return False
    return len(word) == 1 or word[0] != "0"


def code_in(instruction_set, line):
    """Return the code in a line, or None if it is not a line of a code."""
    if line == EMPTY:
        return ()
    words = line.split(" ")
    if not all([is_number(word, MOST_DIGITS) for word in words]):
        return None
    code = tuple([int(word) for word in words])
    return code if is_code(instruction_set, code) else None


def byte_count_in(line):
    """Return the number in the first line of an instruction set, or None if it is no such line."""
    words = line.split(" ")
    if len(words) != 2 or words[0] != "bytes" or not is_number(words[1], MOST_DIGITS):
        return None
    return int(words[1])


def instruction_in(line):
    """Return the instruction in a line, valid or not, or None if it is not a line of an instruction."""
    words = line.split(" ")
    if len(words) < 3 or words[3:] not in ([], ["padding"]):
        return None
    if not is_number(words[0], MOST_DIGITS) or not is_name(words[1]) or not is_number(words[2], MOST_DIGITS):
        return None
    return int(words[0]), words[1], int(words[2]), len(words) == 4


def step_in(instruction_set, line):
    """Return the step in a line, or None if it is not a line of a step."""
    words = line.split(" ")
    if not all([word == ANY_BYTE or is_number(word, MOST_DIGITS) for word in words[1:]]):
        return None
    operands = tuple([None if word == ANY_BYTE else int(word) for word in words[1:]])
    step = (words[0], operands)
    return step if is_step(instruction_set, step_lengths(instruction_set), step) else None
