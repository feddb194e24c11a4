"""Records of runs: what each rule looks at and assigns; and making a record again for another start."""

from orderless.lookup import rule_named
from orderless.rules import assigned, looks_of, with_assigned
from orderless.running import shown_in


def record_of(program, order, start):
    """The record (start, rows, end) of a legal order."""
    rows = []
    state = start
    for name in order:
        row = row_in(program, name, state)
        rows.append(row)
        state = with_assigned(state, row[2])
    return (start, tuple(rows), state)


def again(program, record, start):
    """The record of the same order for a start, and a tuple of the names of the rules that were done again."""
    rows = []
    names = []
    state = start
    for old_row in record[1]:
        row = old_row
        if any([state[index] != value for index, value in old_row[1]]):
            row = row_in(program, old_row[0], state)
            names.append(row[0])
        rows.append(row)
        state = with_assigned(state, row[2])
    return ((start, tuple(rows), state), tuple(names))


def record_result(program, record):
    """The result that a record tells."""
    return shown_in(program, record[2])


def record_order(record):
    """The order of a record."""
    return tuple([row[0] for row in record[1]])


def row_in(program, name, state):
    """The row (name, looked, assigned) of a rule in a state."""
    rule = rule_named(program, name)
    return (name, looks_of(program[0], rule, state), assigned(program[0], rule, state))
