"""Distances: all states of an overlay, and how many bytes each is away from the end."""

from overlapcode.checks import is_integer
from overlapcode.overlays import check_overlay
from overlapcode.states import StateMachine, distances_to_final, explore


def start_state(instruction_set, programs, entries):
    """Return the state before the first byte."""
    check_overlay(instruction_set, programs, entries)
    return StateMachine(instruction_set, programs, entries).first_state()


def next_state(instruction_set, programs, entries, state, byte):
    """Return the state to which the byte leads from this state, or None."""
    check_overlay(instruction_set, programs, entries)
    return StateMachine(instruction_set, programs, entries).state_behind(state, byte)


def distance_table(instruction_set, programs, entries):
    """Return (state, distance) for all states, in the order of their least shortest codes."""
    check_overlay(instruction_set, programs, entries)
    machine = StateMachine(instruction_set, programs, entries)
    states, origins, moves = explore(machine, False)
    return tuple(zip(states, distances_to_final(machine, states, moves)))


def is_distance_table(instruction_set, programs, entries, value):
    """Return whether this is a tuple of all pairs of the table, each once, in any order."""
    table = distance_table(instruction_set, programs, entries)
    if not isinstance(value, tuple) or len(value) != len(table):
        return False
    # Only pairs of the right kinds can be looked up, and True is not to pass for 1.
    if not all([is_pair(item) for item in value]):
        return False
    given = {state: distance for state, distance in value}
    # As many states as pairs: no state stands twice.
    return len(given) == len(table) and all([given.get(state, -1) == distance for state, distance in table])


def is_pair(value):
    """Return whether this has the kinds of values of a state and a distance."""
    if not isinstance(value, tuple) or len(value) != 2:
        return False
    state, distance = value
    return is_state(state) and (distance is None or is_integer(distance))


def is_state(value):
    """Return whether this has the kinds of values of a state."""
    if not isinstance(value, tuple) or len(value) != 2:
        return False
    offset, decoders = value
    return is_integer(offset) and isinstance(decoders, tuple) and all([is_decoder(item) for item in decoders])


def is_decoder(value):
    """Return whether this has the kinds of values of a decoder in a state."""
    if value is None:
        return True
    if not isinstance(value, tuple) or len(value) != 3:
        return False
    done, is_padding, left = value
    return is_integer(done) and isinstance(is_padding, bool) and is_integer(left)
