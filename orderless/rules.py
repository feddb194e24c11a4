"""Evaluating rules: what they assign, the state behind them, and the cells that are looked at."""

from orderless.cells import cell_ranges, found_index
from orderless.expressions import evaluated, first_looks, keyed_index


def assigned(cells, rule, state):
    """The ascending tuple of (index, value) that a rule assigns in a state, or None if it rests."""
    entries, _ = _worked_out(cells, rule, state)
    if entries is None:
        return None
    indexes = [index for index, _ in entries]
    if len(set(indexes)) < len(indexes):
        return None
    ranges = cell_ranges(cells)
    for index, value in entries:
        low, high = ranges[index]
        if not low <= value <= high:
            return None
    return tuple(sorted(entries))


def behind(cells, rule, state):
    """The state behind a rule."""
    return with_assigned(state, assigned(cells, rule, state))


def with_assigned(state, entries):
    """The state with the values that are assigned, as assigned tells them; the same one for None."""
    values = list(state)
    if entries is not None:
        for index, value in entries:
            values[index] = value
    return tuple(values)


def looks_of(cells, rule, state):
    """The pairs (index, value) of the cells at which a rule looks, in the order of the first look."""
    _, looks = _worked_out(cells, rule, state)
    return first_looks(state, looks)


def _worked_out(cells, rule, state):
    """A list of (index, value) as the assignments stand, None if a part fails or the guard is false; and the looks.

    Ranges and cells that occur twice do not end evaluating; so they are left to assigned.
    """
    _, guard, assignments = rule
    value, looks = evaluated(cells, state, guard)
    if value is None or value == 0:
        return None, looks
    entries = []
    for target, part in assignments:
        index, more = _target_index(cells, state, target)
        looks = looks + more
        if index is None:
            return None, looks
        value, more = evaluated(cells, state, part)
        looks = looks + more
        if value is None:
            return None, looks
        entries.append((index, value))
    return entries, looks


def _target_index(cells, state, target):
    if isinstance(target, str):
        return found_index(cells, target, None), ()
    return keyed_index(cells, state, target[0], target[1])
