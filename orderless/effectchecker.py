"""The checker of effect papers."""

from orderless.effects import changes_of, reads_of
from orderless.errors import InvalidPaper
from orderless.kinds import is_number
from orderless.lookup import rule_named
from orderless.showing import differ_there_only, is_cell_index, is_state_number, shows_change, shows_reading


def lets_effects(program, rule, thing):
    """The pair (reads, changes) of the indexes of an effect paper; raises InvalidPaper for any other value."""
    found = rule_named(program, rule)
    if not _has_shape(thing):
        raise InvalidPaper("shape", -1)
    reads, changes = thing
    _check_reads(program, found, reads)
    _check_changes(program, found, changes)
    read = tuple([row[0] for row in reads])
    changed = tuple([row[0] for row in changes])
    for cell in reads_of(program, rule):
        if cell not in read:
            raise InvalidPaper("reads", cell)
    for cell in changes_of(program, rule):
        if cell not in changed:
            raise InvalidPaper("changes", cell)
    return (read, changed)


def _has_shape(thing):
    if not isinstance(thing, tuple) or len(thing) != 2:
        return False
    return _are_rows(thing[0], 3) and _are_rows(thing[1], 2)


def _are_rows(thing, many):
    """Whether any value is a tuple of tuples of so many numbers."""
    if not isinstance(thing, tuple):
        return False
    return all([_is_row(row, many) for row in thing])


def _is_row(thing, many):
    return isinstance(thing, tuple) and len(thing) == many and all([is_number(part) for part in thing])


def _check_reads(program, rule, rows):
    for k, (cell, one, other) in enumerate(rows):
        _check_cell(program, rows, k, 0)
        if not is_state_number(program, one) or not is_state_number(program, other):
            raise InvalidPaper("state", (0, k))
        if not differ_there_only(program, cell, one, other):
            raise InvalidPaper("state", (0, k))
        if not shows_reading(program, rule, cell, one, other):
            raise InvalidPaper("same", (0, k))


def _check_changes(program, rule, rows):
    for k, (cell, number) in enumerate(rows):
        _check_cell(program, rows, k, 1)
        if not is_state_number(program, number):
            raise InvalidPaper("state", (1, k))
        if not shows_change(program, rule, cell, number):
            raise InvalidPaper("same", (1, k))


def _check_cell(program, rows, k, part):
    cell = rows[k][0]
    if not is_cell_index(program, cell) or (k > 0 and not cell > rows[k - 1][0]):
        raise InvalidPaper("cell", (part, k))
