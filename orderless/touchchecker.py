"""The checker of touch papers."""

from orderless.errors import InvalidPaper
from orderless.kinds import is_number
from orderless.lookup import rule_named
from orderless.showing import is_cell_index, is_state_number, shows_change, shows_reading


def lets_touch(program, rule, other, thing):
    """The cell of a touch paper; raises InvalidPaper for any other value."""
    found = (rule_named(program, rule), rule_named(program, other))
    if not _has_shape(thing):
        raise InvalidPaper("shape", -1)
    changer, cell, state, seen = thing
    if not is_cell_index(program, cell):
        raise InvalidPaper("cell", -1)
    if not is_state_number(program, state) or not shows_change(program, found[changer], cell, state):
        raise InvalidPaper("change", -1)
    if not _shows(program, found[1 - changer], cell, seen):
        raise InvalidPaper("seen", -1)
    return cell


def _has_shape(thing):
    if not isinstance(thing, tuple) or len(thing) != 4:
        return False
    changer, cell, state, seen = thing
    if not all([is_number(part) for part in (changer, cell, state)]) or changer > 1:
        return False
    return isinstance(seen, tuple) and len(seen) in (1, 2) and all([is_number(part) for part in seen])


def _shows(program, rule, cell, seen):
    """Whether the states with one or two numbers show that the rule changes, or reads, a cell."""
    if not all([is_state_number(program, number) for number in seen]):
        return False
    if len(seen) == 1:
        return shows_change(program, rule, cell, seen[0])
    return shows_reading(program, rule, cell, seen[0], seen[1])
