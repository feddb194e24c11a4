"""Running code, from one load or store to the next.

A run of code is a pair (at, slots): the index of the next instruction, None if code has ended or a fault stopped it,
and a tuple of the values of the slots. Values are those of the cells, which may be any integers.

What a step does is (word, at, cell, value): the word is load, store, fault or end, at the index of the instruction;
cell and value are None for a fault and for an end.
"""

from orderless.cells import found_index
from orderless.codekinds import SLOTS, touched_place
from orderless.expressions import value_of_two


def run_alone(cells, code, state):
    """A pair of the values of the cells at the end, None after a fault, and a tuple of the events."""
    run = first_run()
    values = state
    events = []
    while run[0] is not None:
        (word, _, cell, value), run, values = step_of(cells, code, run, values)
        if word == "fault":
            return (None, tuple(events))
        if word != "end":
            events.append((word, cell, value))
    return (values, tuple(events))


def first_run():
    """The run of code that has not begun."""
    return (0, (0,) * SLOTS)


def step_of(cells, code, run, values):
    """What the next step of code does, the run behind it, and the values of the cells behind it."""
    at, slots = run
    while at is not None and at < len(code) and code[at][0] != "end":
        instruction = code[at]
        if touched_place(instruction) is not None:
            return _touching_step(cells, instruction, (at, slots), values)
        if instruction[0] in ("jump", "unless"):
            at = _index_behind(instruction, at, slots)
        else:
            value = _value_of(instruction, slots)
            if value is None:
                return (("fault", at, None, None), (None, slots), values)
            slots = _replaced(slots, _slot_of(instruction), value)
            at = at + 1
    return (("end", at, None, None), (None, slots), values)


def _touching_step(cells, instruction, run, values):
    at, slots = run
    cell = _touched_cell(cells, instruction, slots)
    if cell is None:
        return (("fault", at, None, None), (None, slots), values)
    if instruction[0] in ("load", "loadat"):
        value = values[cell]
        return (("load", at, cell, value), (at + 1, _replaced(slots, instruction[1], value)), values)
    value = slots[instruction[-1]]
    return (("store", at, cell, value), (at + 1, slots), _replaced(values, cell, value))


def _touched_cell(cells, instruction, slots):
    """The index of the cell that a load or store is about, None if it is a key without a cell."""
    word = instruction[0]
    place = touched_place(instruction)
    if word == "loadat":
        return found_index(cells, place, slots[instruction[3]])
    if word == "storeat":
        return found_index(cells, place, slots[instruction[2]])
    if isinstance(place, tuple):
        return found_index(cells, place[0], place[1])
    return found_index(cells, place, None)


def _index_behind(instruction, at, slots):
    if instruction[0] == "jump":
        return instruction[1]
    return instruction[2] if slots[instruction[1]] == 0 else at + 1


def _slot_of(instruction):
    """The slot that a const or do puts its value into."""
    return instruction[1] if instruction[0] == "const" else instruction[2]


def _value_of(instruction, slots):
    """The value of a const or do, None for a fault."""
    if instruction[0] == "const":
        return instruction[2]
    _, op, _, one, other = instruction
    if op in ("div", "mod") and slots[other] < 1:
        return None
    return value_of_two(op, slots[one], slots[other])


def _replaced(values, index, value):
    """The tuple with another value at an index."""
    return values[:index] + (value,) + values[index + 1:]
