"""The states of a program, their numbers, and its starts."""

from orderless.cells import cell_ranges, row_width
from orderless.errors import InvalidInput, UnknownCell
from orderless.expressions import value_in
from orderless.kinds import is_integer


def count_states(program):
    """The number of states."""
    many = 1
    for low, high in cell_ranges(program[0]):
        many = many * (high - low + 1)
    return many


def all_states(program):
    """A generator of all states, ascending."""
    for state in state_list(program):
        yield state


def state_list(program):
    """A list of all states, ascending: for properties, which must not run a generator."""
    return _combined(cell_ranges(program[0]))


def state_number(program, state):
    """The number of a state."""
    number = 0
    for (low, high), value in zip(cell_ranges(program[0]), state):
        number = number * (high - low + 1) + value - low
    return number


def state_at(program, number):
    """The state with a number."""
    values = []
    left = number
    for low, high in cell_ranges(program[0])[::-1]:
        width = high - low + 1
        values.append(low + left % width)
        left = left // width
    return tuple(values[::-1])


def cell_steps(program):
    """A tuple of pairs (step, many), one for each cell.

    If the value of the cell is greater by 1, the number of the state is greater by step; the cell has many values.
    """
    steps = []
    step = 1
    for low, high in cell_ranges(program[0])[::-1]:
        many = high - low + 1
        steps.append((step, many))
        step = step * many
    return tuple(steps[::-1])


def with_low_value(number, step, many):
    """The number of the state that has the value low in a cell, and else the values of the state with a number."""
    return number - number // step % many * step


def starts_of(program):
    """A generator of all starts, ascending."""
    for start in start_list(program):
        yield start


def start_list(program):
    """A list of all starts, ascending: for properties, which must not run a generator."""
    cells, _, _, starts = program
    return [state for state in states_for_inputs(program) if value_in(cells, state, starts) != 0]


def states_for_inputs(program):
    """A list of the states in which all cells that are no inputs have the value first, ascending."""
    ranges = []
    for row in program[0]:
        ranges = ranges + [(row[2], row[3]) if row[4] else (row[6], row[6])] * row_width(row)
    return _combined(ranges)


def _combined(ranges):
    """A list of all tuples with a value out of each of the ranges, ascending."""
    states = [()]
    for low, high in ranges:
        states = [state + (value,) for state in states for value in range(low, high + 1)]
    return states


def is_start(program, thing):
    """Whether any value is a start."""
    cells, _, _, starts = program
    if not _is_state(cells, thing):
        return False
    begin = 0
    for row in cells:
        part = thing[begin:begin + row_width(row)]
        if not row[4] and part != _first_values(row):
            return False
        begin = begin + row_width(row)
    return value_in(cells, thing, starts) != 0


def start_of(program, **inputs):
    """The start with these inputs; inputs that are not given have the value low."""
    cells = program[0]
    rows = {row[0]: row for row in cells if row[4]}
    for name in sorted(inputs):
        if name not in rows:
            raise UnknownCell(name)
    for name in sorted(inputs):
        if _input_values(rows[name], inputs[name]) is None:
            raise InvalidInput(inputs[name])
    state = ()
    for row in cells:
        state = state + (_input_values(row, inputs[row[0]]) if row[0] in inputs else _first_values(row))
    if not is_start(program, state):
        raise InvalidInput(state)
    return state


def _is_state(cells, thing):
    ranges = cell_ranges(cells)
    if not isinstance(thing, tuple) or len(thing) != len(ranges):
        return False
    return all([_is_within(value, low, high) for value, (low, high) in zip(thing, ranges)])


def _is_within(value, low, high):
    return is_integer(value) and low <= value <= high


def _first_values(row):
    return (row[6],) * row_width(row)


def _input_values(row, value):
    """A tuple of the values of the cells of an input row, or None if the given value does not fit it."""
    values = (value,) if row[1] == 0 else value
    if not isinstance(values, tuple) or len(values) != row_width(row):
        return None
    if not all([_is_within(part, row[2], row[3]) for part in values]):
        return None
    return values
