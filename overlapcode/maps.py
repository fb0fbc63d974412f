"""Maps: what a code does to the decoders that come to it with each countdown."""

from overlapcode.decoding import countdown_behind, walk


def identity_map(instruction_set):
    """Return the map of the empty code."""
    return unchanged(instruction_set.longest())


def code_map(instruction_set, code):
    """Return the map of the code."""
    return tuple([decoder_pair(instruction_set, code, countdown) for countdown in range(instruction_set.longest())])


def compose_maps(first, second):
    """Return the map of a code with the first map followed by a code with the second."""
    return tuple([continued(pair, second) for pair in first])


def repeat_map(summary, times):
    """Return the map of a code with this map, repeated so many times."""
    repeated = unchanged(len(summary))
    doubled = summary
    left = times
    # Doubling needs about a hundred steps for 10 ** 30 copies.
    while left > 0:
        if left % 2 == 1:
            repeated = compose_maps(repeated, doubled)
        doubled = compose_maps(doubled, doubled)
        left //= 2
    return repeated


def merge_classes(summary):
    """Return the classes of countdowns that lead to the same countdown."""
    members = {}
    for countdown, (behind, begun) in enumerate(summary):
        if behind is not None:
            members.setdefault(behind, []).append(countdown)
    # A dict keeps the order of its keys, so the classes stand in the order of their least members.
    return tuple([tuple(countdowns) for countdowns in members.values()])


def is_synchronized(summary, countdowns):
    """Return whether all these countdowns lead to one countdown, none of them to None."""
    reached = [summary[countdown][0] for countdown in countdowns]
    return None not in reached and len(set(reached)) <= 1


def unchanged(count):
    """Return the map of the empty code for so many countdowns."""
    return tuple([(countdown, 0) for countdown in range(count)])


def decoder_pair(instruction_set, code, countdown):
    """Return the pair of the map for a decoder with this countdown in front of the code."""
    begun, following = walk(instruction_set, code, countdown)
    return countdown_behind(code, following), len(begun)


def continued(pair, second):
    """Return what this pair of a map becomes if a code with the second map follows."""
    countdown, begun = pair
    if countdown is None:
        return pair
    behind, more = second[countdown]
    return behind, begun + more
