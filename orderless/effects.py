"""The cells that a rule reads, and those that it changes, over all states."""

from orderless.lookup import rule_named
from orderless.rules import assigned
from orderless.states import cell_steps, state_list, with_low_value


def reads_of(program, rule):
    """The ascending tuple of the indexes of the cells that a rule reads."""
    entries = entries_of(program, rule)
    steps = cell_steps(program)
    return tuple([index for index, (step, many) in enumerate(steps) if reading_pair(entries, step, many) is not None])


def changes_of(program, rule):
    """The ascending tuple of the indexes of the cells that a rule changes."""
    entries = entries_of(program, rule)
    states = state_list(program)
    changed = []
    for state, assigns in zip(states, entries):
        changed = changed + changed_cells(state, assigns)
    return tuple(sorted(set(changed)))


def entries_of(program, rule):
    """A tuple of what the rule assigns in each state, in ascending order; None where it rests."""
    found = rule_named(program, rule)
    states = state_list(program)
    return tuple([assigned(program[0], found, state) for state in states])


def changed_cells(state, assigns):
    """A list of the indexes of the cells that get another value in a state; nothing if the rule rests."""
    if assigns is None:
        return []
    return [index for index, value in assigns if state[index] != value]


def reading_pair(entries, step, many):
    """The numbers of two states that show that a rule reads a cell, or None; step and many as in cell_steps.

    If it assigns different things in two states that differ in this cell only, one of them differs from what it
    assigns where the cell has its value low. So comparing with low alone finds each cell that is read.
    """
    for number, assigns in enumerate(entries):
        low_one = with_low_value(number, step, many)
        if assigns != entries[low_one]:
            return (low_one, number)
    return None
