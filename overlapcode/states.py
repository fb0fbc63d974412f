"""States: how far the decoders of an overlay have come in their programs, and where a byte leads from there."""


class StateMachine:
    """The states of overlays of these programs from these entries, all of which must be valid."""

    def __init__(self, instruction_set, programs, entries):
        self.entries = entries
        self.padding = padding_by_opcode(instruction_set)
        self.tasks = [opcode_steps(instruction_set, program) for program in programs]
        self.ends = tuple([(len(program), False, 0) for program in programs])
        self.every_byte = list(range(instruction_set.byte_count))

    def first_state(self):
        """Return the state before the first byte."""
        return 0, tuple([(0, False, 0) if entry == 0 else None for entry in self.entries])

    def is_final(self, state):
        """Return whether the bytes that lead to this state are an overlay."""
        offset, decoders = state
        return offset == self.entries[-1] and decoders == self.ends

    def state_behind(self, state, byte):
        """Return the state to which the byte leads from this state, or None."""
        offset, decoders = state
        reached = min(offset + 1, self.entries[-1])
        moved = []
        for decoder, entry, steps in zip(decoders, self.entries, self.tasks):
            if decoder is not None:
                behind = decoder_behind(self.padding, steps, decoder, byte)
                if behind is None:
                    return None
                moved.append(behind)
            else:
                moved.append((0, False, 0) if entry == reached else None)
        return reached, tuple(moved)

    def moves(self, state):
        """Return (next state, bytes that lead to it) for each next state, in the order of their least bytes."""
        fitting = self.fitting_bytes(state)
        if fitting is None:
            # No decoder looks at the byte, so all bytes do the same.
            return [(self.state_behind(state, 0), self.every_byte)]
        found = {}
        for byte in fitting:
            behind = self.state_behind(state, byte)
            if behind is not None:
                found.setdefault(behind, []).append(byte)
        return list(found.items())

    def fitting_bytes(self, state):
        """Return, ascending, all bytes that lead on and perhaps some others, or None if each byte leads on alike."""
        offset, decoders = state
        fitting = None
        for decoder, steps in zip(decoders, self.tasks):
            row = None if decoder is None else decoder_bytes(self.padding, steps, decoder)
            if row is not None and (fitting is None or len(row) < len(fitting)):
                fitting = row
        return fitting


def padding_by_opcode(instruction_set):
    """Return the length of each padding instruction, by its opcode."""
    return {opcode: length for opcode, name, length, is_padding in instruction_set.instructions if is_padding}


def opcode_steps(instruction_set, program):
    """Return (opcode, operands) for each step of the program."""
    return [(instruction_set.opcode(name), operands) for name, operands in program]


def decoder_behind(padding, steps, decoder, byte):
    """Return what becomes of a decoder that has entered behind the byte, or None if the byte does not fit."""
    done, is_padding, left = decoder
    if is_padding:
        return padding_decoder(done, left - 1)
    if left > 0:
        operands = steps[done][1]
        wanted = operands[len(operands) - left]
        return step_decoder(done, left - 1) if wanted is None or wanted == byte else None
    if byte in padding:
        return padding_decoder(done, padding[byte] - 1)
    if done < len(steps) and steps[done][0] == byte:
        return step_decoder(done, len(steps[done][1]))
    return None


def padding_decoder(done, left):
    """Return a decoder with so many bytes left of a padding instruction."""
    return done, left > 0, left


def step_decoder(done, left):
    """Return a decoder with so many bytes left of the step behind those that are done."""
    return (done, False, left) if left > 0 else (done + 1, False, 0)


def decoder_bytes(padding, steps, decoder):
    """Return, ascending, the bytes that fit a decoder that has entered, or None if each does."""
    done, is_padding, left = decoder
    if is_padding:
        return None
    if left > 0:
        operands = steps[done][1]
        wanted = operands[len(operands) - left]
        return None if wanted is None else [wanted]
    opcodes = list(padding)
    if done < len(steps):
        opcodes.append(steps[done][0])
    return sorted(opcodes)


def explore(machine, ends_at_final):
    """Return states, in the order of their least shortest codes, and for each how it was come to and its moves.

    Those are all states that some code leads to, or, if asked for, those up to the first final one. `origins` has
    (number of the state in front, byte) for each state but the first; `moves` has (number of the next state, bytes)
    for each state whose next ones were looked for.
    """
    states = [machine.first_state()]
    number_of = {states[0]: 0}
    origins = [None]
    moves = []
    while len(moves) < len(states):
        at = len(moves)
        if ends_at_final and machine.is_final(states[at]):
            # What was come to behind the final state is not asked for.
            return states[:at + 1], origins[:at + 1], moves
        row = []
        found = machine.moves(states[at])
        for behind, fitting in found:
            if behind not in number_of:
                number_of[behind] = len(states)
                states.append(behind)
                origins.append((at, fitting[0]))
            row.append((number_of[behind], fitting))
        moves.append(row)
    return states, origins, moves


def code_to(origins, number):
    """Return the least shortest code that leads to the state of this number."""
    row = []
    while origins[number] is not None:
        number, byte = origins[number]
        row.append(byte)
    return tuple(row[::-1])


def distances_to_final(machine, states, moves):
    """Return, for each state, the least number of bytes that lead from it to a final one, or None."""
    fronts = [[] for state in states]
    for number, row in enumerate(moves):
        for target, fitting in row:
            fronts[target].append(number)
    distances = [0 if machine.is_final(state) else None for state in states]
    reached = [number for number, distance in enumerate(distances) if distance == 0]
    while len(reached) > 0:
        further = []
        for number in reached:
            for front in fronts[number]:
                if distances[front] is None:
                    distances[front] = distances[number] + 1
                    further.append(front)
        reached = further
    return distances
