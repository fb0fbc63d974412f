"""Counting: how many overlays of a length there are, and which number each has."""

from overlapcode.checks import is_integer_between
from overlapcode.errors import InvalidNumber
from overlapcode.overlays import check_overlay, is_overlay
from overlapcode.states import StateMachine, distances_to_final, explore


def overlay_count(instruction_set, programs, entries, length):
    """Return the number of overlays of this length."""
    check_overlay(instruction_set, programs, entries)
    graph = OverlayGraph(instruction_set, programs, entries)
    level = graph.last_level()
    for left in range(length):
        level = graph.level_before(level)
    return level[0]


def overlay_at(instruction_set, programs, entries, length, number):
    """Return the overlay of this length with this number in ascending order."""
    check_overlay(instruction_set, programs, entries)
    graph = OverlayGraph(instruction_set, programs, entries)
    levels = graph.levels(length)
    if not is_integer_between(number, 0, levels[length][0] - 1):
        raise InvalidNumber(number)
    code = []
    state = 0
    for left in reversed(range(length)):
        byte, state, number = chosen_move(graph.sorted_moves(state), levels[left], number)
        code.append(byte)
    return tuple(code)


def overlay_number(instruction_set, programs, entries, code):
    """Return the number of the code among the overlays of its length, or None if it is none."""
    if not is_overlay(instruction_set, programs, entries, code):
        return None
    graph = OverlayGraph(instruction_set, programs, entries)
    levels = graph.levels(len(code))
    number = 0
    state = 0
    for place, byte in enumerate(code):
        level = levels[len(code) - place - 1]
        moves = graph.sorted_moves(state)
        number += sum([level[target] for other, target in moves if other < byte])
        # An overlay never leaves the useful moves, so its byte is among them.
        state = dict(moves)[byte]
    return number


class OverlayGraph:
    """The states of an overlay by their numbers, and the moves between them; the start has the number 0.

    A level has, for each state, the number of codes of some length that lead from it to a final state.
    """

    def __init__(self, instruction_set, programs, entries):
        machine = StateMachine(instruction_set, programs, entries)
        states, origins, all_moves = explore(machine, False)
        self.distances = distances_to_final(machine, states, all_moves)
        # What leads to no final state adds nothing to any number.
        self.useful_moves = [self.useful_part(row) for row in all_moves]

    def useful_part(self, row):
        """Return the moves of this row to states from which a final one can be come to."""
        return [(target, fitting) for target, fitting in row if self.distances[target] is not None]

    def last_level(self):
        """Return the level for no further bytes."""
        return [1 if distance == 0 else 0 for distance in self.distances]

    def level_before(self, level):
        """Return the level for one byte more."""
        return [sum([len(fitting) * level[target] for target, fitting in row]) for row in self.useful_moves]

    def levels(self, length):
        """Return the levels for no bytes up to so many."""
        rows = [self.last_level()]
        for left in range(length):
            rows.append(self.level_before(rows[-1]))
        return rows

    def sorted_moves(self, state):
        """Return (byte, number of the next state) in the order of the bytes."""
        return sorted([(byte, target) for target, fitting in self.useful_moves[state] for byte in fitting])


def chosen_move(moves, level, number):
    """Return the byte and the next state of the overlay with this number, and its number among those behind them."""
    at = 0
    # The number is below the sum over all moves, so one of them is chosen.
    while number >= level[moves[at][1]]:
        number -= level[moves[at][1]]
        at += 1
    byte, target = moves[at]
    return byte, target, number
