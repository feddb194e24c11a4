"""The checker of good code."""

from orderless.cells import cell_ranges, found_index
from orderless.codekinds import is_code, jump_index, touched_place
from orderless.effects import changes_of
from orderless.errors import InvalidPaper
from orderless.lookup import rule_named
from orderless.machines import first_run, step_of
from orderless.rules import behind
from orderless.states import state_list


def lets_code(program, rule, thing):
    """The number of instructions of good code for a rule; raises InvalidPaper for any other value."""
    found = rule_named(program, rule)
    if not is_code(thing):
        raise InvalidPaper("shape", -1)
    cells = program[0]
    _check_fits(cells, thing)
    changes = changes_of(program, rule)
    for n, state in enumerate(state_list(program)):
        values = _checked_end(cells, changes, thing, n, state)
        if values != behind(cells, found, state):
            raise InvalidPaper("end", n)
    return len(thing)


def _check_fits(cells, code):
    for i, instruction in enumerate(code):
        if not _fits_place(cells, instruction):
            raise InvalidPaper("cell", i)
        index = jump_index(instruction)
        if index is not None and not i < index <= len(code):
            raise InvalidPaper("jump", i)


def _fits_place(cells, instruction):
    """Whether the cell or table of an instruction exists, if it has one."""
    place = touched_place(instruction)
    if place is None:
        return True
    if instruction[0] in ("loadat", "storeat"):
        return found_index(cells, place, 0) is not None
    if isinstance(place, tuple):
        return found_index(cells, place[0], place[1]) is not None
    return found_index(cells, place, None) is not None


def _checked_end(cells, changes, code, n, state):
    """The values of the cells behind code that runs alone from the state with number n, each step of which is right."""
    ranges = cell_ranges(cells)
    run = first_run()
    values = state
    loaded, stored = [], []
    while run[0] is not None:
        (word, at, cell, value), run, values = step_of(cells, code, run, values)
        if word == "fault":
            raise InvalidPaper("fault", (n, at))
        if word == "load":
            _check_load(cell, loaded, stored, (n, at))
            loaded.append(cell)
        if word == "store":
            if cell not in changes or cell in stored:
                raise InvalidPaper("store", (n, at))
            low, high = ranges[cell]
            if not low <= value <= high:
                raise InvalidPaper("range", (n, at))
            stored.append(cell)
    return values


def _check_load(cell, loaded, stored, place):
    if cell in loaded:
        raise InvalidPaper("twice", place)
    if stored != []:
        raise InvalidPaper("late", place)
