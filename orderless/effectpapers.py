"""Writing effect papers: states that show what a rule reads and changes."""

from orderless.effects import changed_cells, entries_of, reading_pair
from orderless.states import cell_steps, state_list


def effect_paper(program, rule):
    """A pair (reads, changes) of rows (cell, one, other) and (cell, state), each ascending by cell."""
    entries = entries_of(program, rule)
    return (_read_rows(program, entries), _change_rows(program, entries))


def _read_rows(program, entries):
    rows = []
    for cell, (step, many) in enumerate(cell_steps(program)):
        pair = reading_pair(entries, step, many)
        if pair is not None:
            rows.append((cell, pair[0], pair[1]))
    return tuple(rows)


def _change_rows(program, entries):
    states = state_list(program)
    first = {}
    for number, state in enumerate(states):
        for cell in changed_cells(state, entries[number]):
            if cell not in first:
                first[cell] = number
    return tuple([(cell, first[cell]) for cell in sorted(first)])
