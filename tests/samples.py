"""Values that several tests share."""


def nested(kind, depth):
    value = 0
    for level in range(depth):
        value = {"tuple": (value,), "list": [value], "dict": {"a": value}}[kind]
    return value


# The values are made anew for each caller, so that no test sees what another one changed.
def any_values():
    """Values of every kind that "any value" covers."""
    return [
        0, 1, -1, 2, 3, 12, 13, 255, 256, 257, 1000, 1001, 10 ** 30, -(10 ** 30),
        True, False, None,
        "", "a", "nop", "NOP", "0", "no p", "nop\n", "abcdefgh", "abcdefghi", "~", " ",
        (), (0,), (1, 2), (0, "nop", 1, True), ((0, "nop", 1, True),), (None,), (True,), ((),), ([],), ({},),
        [], [0], [1, 2], [(0, "nop", 1, True)], [[]], [None],
        {}, {0: 1}, {"a": [1, (2, None)]}, {(1, 2): {}}, {None: None},
        nested("tuple", 30), nested("list", 30), nested("dict", 30), (nested("list", 29),), [nested("tuple", 29)],
    ]


def same(first, second):
    """Equality that also tells booleans from integers, at any depth."""
    return repr(first) == repr(second)
