"""Two rules: the cells that they share, and whether the order between them matters to states."""

from orderless.effects import changes_of, reads_of
from orderless.moves import moves_of


def shared_cells(program, rule, other):
    """The indexes of the cells that one of both rules changes and the other one reads or changes, ascending."""
    return _shared(_touch_of(program, rule), _touch_of(program, other))


def are_apart(program, rule, other):
    """Whether neither rule changes a cell that the other one reads or changes."""
    return shared_cells(program, rule, other) == ()


def apart_pairs(program):
    """A list of all pairs (r, s) of rules that are apart, r less than s."""
    touches = {rule[0]: _touch_of(program, rule[0]) for rule in program[1]}
    pairs = [(one, other) for one in touches for other in touches if one < other]
    return [(one, other) for one, other in pairs if _shared(touches[one], touches[other]) == ()]


def _touch_of(program, rule):
    """The indexes of the cells that a rule changes, and of those that it changes or reads."""
    changed = changes_of(program, rule)
    return (changed, changed + reads_of(program, rule))


def _shared(touch, other_touch):
    changed, touched = touch
    other_changed, other_touched = other_touch
    shared = [cell for cell in changed if cell in other_touched] + [cell for cell in other_changed if cell in touched]
    return tuple(sorted(set(shared)))


def commute(program, rule, other):
    """Whether from every state both orders of two rules lead to the same state."""
    return differing_state(program, rule, other) is None


def differing_state(program, rule, other):
    """The number of the first state from which both orders lead to different states, or None."""
    moves, other_moves = moves_of(program, rule), moves_of(program, other)
    for number in range(len(moves)):
        if other_moves[moves[number]] != moves[other_moves[number]]:
            return number
    return None
