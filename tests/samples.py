"""Values that several tests share."""


def nested(kind, depth):
    value = 0
    for level in range(depth):
        value = {"tuple": (value,), "list": [value], "dict": {"a": value}}[kind]
    return value


# The values are made anew for each caller, so that no test sees what another one changed.
def any_values():
    """Values of every kind that "any value" covers."""
    return [
        0, 1, -1, 2, 3, 12, 13, 255, 256, 257, 1000, 1001, 10 ** 30, -(10 ** 30),
        True, False, None,
        "", "a", "nop", "NOP", "0", "no p", "nop\n", "abcdefgh", "abcdefghi", "~", " ",
        (), (0,), (1, 2), (0, "nop", 1, True), ((0, "nop", 1, True),), (None,), (True,), ((),), ([],), ({},),
        [], [0], [1, 2], [(0, "nop", 1, True)], [[]], [None],
        {}, {0: 1}, {"a": [1, (2, None)]}, {(1, 2): {}}, {None: None},
        nested("tuple", 30), nested("list", 30), nested("dict", 30), (nested("list", 29),), [nested("tuple", 29)],
    ]


def same(first, second):
    """Equality that also tells booleans from integers, at any depth."""
    return repr(first) == repr(second)


def two_letters(number):
    """A name of its own for each number below 26 * 26."""
    return "abcdefghijklmnopqrstuvwxyz"[number // 26] + "abcdefghijklmnopqrstuvwxyz"[number % 26]


# Byte counts and instructions of instruction sets that differ in what matters to decoders and fillers.
SETS = {
    "small": (4, ((0, "nop", 1, True), (1, "skip", 2, True), (2, "load", 2, False), (3, "halt", 1, False))),
    "wide": (8, ((0, "two", 2, True), (1, "three", 3, True), (2, "add", 3, False))),
    "no padding": (4, ((0, "add", 3, False), (3, "sub", 5, False))),
    "no padding, one length": (2, ((0, "add", 1, False), (1, "sub", 1, False))),
    "one byte": (2, ((1, "nop", 1, True),)),
    "one length": (3, ((0, "pad", 3, True), (2, "inc", 1, False))),
    "one length twice": (3, ((1, "pad", 3, True), (2, "fill", 3, True))),
    "even": (3, ((0, "two", 2, True), (1, "four", 4, True), (2, "inc", 1, False))),
    "threes": (4, ((1, "six", 6, True), (2, "three", 3, True), (3, "inc", 8, False))),
    "long first": (3, ((1, "three", 3, True), (2, "two", 2, True))),
    "short first": (3, ((1, "two", 2, True), (2, "three", 3, True))),
    "zero is load": (3, ((0, "load", 4, False), (1, "four", 4, True), (2, "three", 3, True))),
    "zero is invalid": (3, ((1, "five", 5, True), (2, "two", 2, True))),
    "lengths twice": (4, ((0, "a", 2, True), (1, "b", 3, True), (2, "c", 2, True), (3, "d", 5, False))),
    "longest": (2, ((0, "eleven", 11, True), (1, "twelve", 12, True))),
    "longest is load": (4, ((0, "load", 12, False), (1, "five", 5, True), (2, "seven", 7, True), (3, "halt", 1, False))),
    "nine and twelve": (5, ((1, "nine", 9, True), (3, "twelve", 12, True), (4, "halt", 1, False))),
    "all": (256, tuple((k, two_letters(k), (k * 7) % 12 + 1, k % 5 == 0) for k in range(256))),
    "few of many": (256, ((3, "nop", 1, True), (200, "pad", 6, True), (255, "call", 5, False))),
}


def random_code(source, byte_count, instructions, size):
    """A code in which opcodes are common, so that decoders come far in it."""
    opcodes = [item[0] for item in instructions]
    return tuple(
        source.choice(opcodes) if source.random() < 0.9 else source.randrange(byte_count) for place in range(size)
    )


def random_program(source, instruction_set, many):
    """A program of so many steps, or the empty one if all instructions are padding."""
    steps = [(name, length) for opcode, name, length, is_padding in instruction_set.instructions if not is_padding]
    if not steps:
        return ()
    rows = []
    for step in range(many):
        name, length = source.choice(steps)
        operands = [source.choice((None, source.randrange(instruction_set.byte_count))) for place in range(length - 1)]
        rows.append((name, tuple(operands)))
    return tuple(rows)
