"""Writing good code for rules: first all cells that the rule reads are loaded, then their values are told apart."""

from orderless.cells import cell_places
from orderless.effects import changes_of, entries_of, reads_of
from orderless.states import state_list

# A slot for the values that slots are compared with; there are fewer cells than that.
SPARE = 31


def code_of(program, rule):
    """Good code for a rule.

    What the rule assigns depends on the cells that it reads alone, and only cells that it changes need a store. So the
    expressions of the rule do not matter, nor what would fail in them.
    """
    places = cell_places(program[0])
    reads = reads_of(program, rule)
    loads = [("load", slot, places[cell]) for slot, cell in enumerate(reads)]
    return tuple(loads + _choosing(_rows_of(program, rule, reads, places), len(loads)))


def _rows_of(program, rule, reads, places):
    """A list of pairs (values of the cells that are read, what is to be stored), ascending."""
    changes = changes_of(program, rule)
    states = state_list(program)
    found = {}
    for state, entries in zip(states, entries_of(program, rule)):
        stores = [(places[cell], value) for cell, value in entries or () if cell in changes]
        found[tuple([state[cell] for cell in reads])] = stores
    return [(values, found[values]) for values in sorted(found)]


def _choosing(rows, begin):
    """The instructions, from index begin on, that do what the row with the loaded values tells."""
    stores = rows[0][1]
    if all([row[1] == stores for row in rows]):
        return _storing(stores)
    slot, middle = _parting(rows)
    low = _choosing([row for row in rows if row[0][slot] < middle], begin + 3)
    high_begin = begin + 3 + len(low)
    high = _choosing([row for row in rows if row[0][slot] >= middle], high_begin)
    return [("const", SPARE, middle), ("do", "<", SPARE, slot, SPARE), ("unless", SPARE, high_begin)] + low + high


def _parting(rows):
    """The first slot that has several values, and one in the middle of them."""
    slot = 0
    while rows[0][0][slot] == rows[-1][0][slot]:
        slot = slot + 1
    values = sorted(set([row[0][slot] for row in rows]))
    return (slot, values[len(values) // 2])


def _storing(stores):
    instructions = []
    for place, value in stores:
        instructions = instructions + [("const", SPARE, value), ("store", place, SPARE)]
    return instructions + [("end",)]
