"""What states show about a rule: that it changes a cell, or reads it. Checkers of papers ask here."""

from orderless.effects import changed_cells
from orderless.rules import assigned
from orderless.states import cell_steps, count_states, state_at, with_low_value


def is_cell_index(program, cell):
    """Whether a number is the index of a cell."""
    return cell < len(cell_steps(program))


def is_state_number(program, number):
    """Whether a number is that of a state."""
    return number < count_states(program)


def assigned_at(program, rule, number):
    """What a rule assigns in the state with a number."""
    return assigned(program[0], rule, state_at(program, number))


def shows_change(program, rule, cell, number):
    """Whether a rule assigns a cell another value than it has in the state with a number."""
    return cell in changed_cells(state_at(program, number), assigned_at(program, rule, number))


def differ_there_only(program, cell, one, other):
    """Whether the states with two numbers differ in a cell, and in no other one."""
    step, many = cell_steps(program)[cell]
    return one != other and with_low_value(one, step, many) == with_low_value(other, step, many)


def shows_reading(program, rule, cell, one, other):
    """Whether the states with two numbers differ in a cell only, and what the rule assigns differs."""
    if not differ_there_only(program, cell, one, other):
        return False
    return assigned_at(program, rule, one) != assigned_at(program, rule, other)
