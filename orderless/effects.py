"""The cells that a rule reads, and those that it changes, over all states."""

from orderless.cells import cell_ranges
from orderless.lookup import rule_named
from orderless.rules import assigned
from orderless.states import all_states


def reads_of(program, rule):
    """The ascending tuple of the indexes of the cells that a rule reads."""
    entries = _entries_by_state(program, rule)
    ranges = cell_ranges(program[0])
    return tuple([index for index, (low, _) in enumerate(ranges) if _reads(entries, index, low)])


def changes_of(program, rule):
    """The ascending tuple of the indexes of the cells that a rule changes."""
    found = _entries_by_state(program, rule)
    changed = []
    for state, entries in found.items():
        if entries is not None:
            changed = changed + [index for index, value in entries if state[index] != value]
    return tuple(sorted(set(changed)))


def _entries_by_state(program, rule):
    """A dict of what the rule assigns in each state."""
    found = rule_named(program, rule)
    states = list(all_states(program))
    return {state: assigned(program[0], found, state) for state in states}


def _reads(entries, index, low):
    """Whether a rule reads a cell.

    If it assigns different things in two states that differ in this cell only, one of them differs from what it
    assigns where the cell has its value low. So comparing with low alone finds each cell that is read.
    """
    for state in entries:
        lowered = state[:index] + (low,) + state[index + 1:]
        if entries[state] != entries[lowered]:
            return True
    return False
