"""The words that bar steps."""

from orderless.cells import row_width
from orderless.contents import decided_program, input_ranges
from orderless.expressions import value_in
from orderless.fitting import fits_expression, fits_rule, names_in
from orderless.kinds import as_expression
from orderless.orders import is_before, rule_names
from orderless.states import count_states, states_for_inputs
from orderless.stepkinds import is_step


def barring_word(contents, step, limits):
    """The word that bars any value as a step, or None; limits are the most cells, states and rules."""
    if not is_step(step):
        return "shape"
    bar = BARS[step[0]]
    return bar(contents, step, limits)


def _bar_cell(contents, step, limits):
    cells, row = contents[0][0], step[1]
    if row[0] in [other[0] for other in cells]:
        return "name"
    more = cells + (row,)
    # The cells are counted first: the states of a huge table cannot be counted cell by cell.
    if sum([row_width(other) for other in more]) > limits[0] or count_states((more, (), (), 1)) > limits[1]:
        return "full"
    return None


def _bar_uncell(contents, step, limits):
    cells, rules, _, starts = contents[0]
    if step[1] not in [row[0] for row in cells]:
        return "name"
    return "used" if step[1] in _cell_names_in(rules, starts) else None


def _bar_rule(contents, step, limits):
    program, rule = contents[0], step[1]
    if rule[0] in rule_names(program):
        return "name"
    if not fits_rule(program[0], rule):
        return "cells"
    return "full" if len(program[1]) >= limits[2] else None


def _bar_unrule(contents, step, limits):
    return None if step[1] in rule_names(contents[0]) else "name"


def _bar_pair(contents, step, limits):
    if not _are_rules(contents, step):
        return "name"
    if step[1:] in contents[0][2]:
        return "there"
    return _bar_circle(contents, step)


def _bar_unpair(contents, step, limits):
    return None if step[1:] in contents[0][2] else "there"


def _bar_starts(contents, step, limits):
    program, starts = contents[0], step[1]
    if not fits_expression(program[0], starts, only_inputs=True):
        return "cells"
    for state in states_for_inputs(program):
        if value_in(program[0], state, starts) is None:
            return "fails"
    return None


def _bar_decide(contents, step, limits):
    program, decisions, _, _ = contents
    if not _are_rules(contents, step):
        return "name"
    if step[1:] in decisions:
        return "there"
    if is_before(program, step[1], step[2]) or is_before(program, step[2], step[1]):
        return "ordered"
    return _bar_circle(contents, step)


def _bar_undecide(contents, step, limits):
    return None if step[1:] in contents[1] else "there"


def _bar_inputs(contents, step, limits):
    ranges = input_ranges(contents[0][0])
    if len(step[1]) != len(ranges):
        return "many"
    fits = [low <= value <= high for value, (low, high) in zip(step[1], ranges)]
    return None if all(fits) else "range"


def _bar_circle(contents, step):
    """The word for a pair or decision between a rule and itself, or against pairs and decisions; or None."""
    _, one, other = step
    return "circle" if one == other or is_before(decided_program(contents), other, one) else None


def _are_rules(contents, step):
    names = rule_names(contents[0])
    return step[1] in names and step[2] in names


def _cell_names_in(rules, starts):
    """A list of all names of cells and tables that stand in rules or in starts."""
    expressions = [starts]
    for _, guard, assignments in rules:
        expressions = expressions + [guard] + [value for _, value in assignments]
        expressions = expressions + [as_expression(target) for target, _ in assignments]
    found = []
    for expression in expressions:
        found = found + [name for name, _ in names_in(expression)]
    return found


BARS = {
    "cell": _bar_cell,
    "uncell": _bar_uncell,
    "rule": _bar_rule,
    "unrule": _bar_unrule,
    "pair": _bar_pair,
    "unpair": _bar_unpair,
    "starts": _bar_starts,
    "decide": _bar_decide,
    "undecide": _bar_undecide,
    "inputs": _bar_inputs,
}
