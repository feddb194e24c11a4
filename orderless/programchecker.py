"""The checker of a program."""

from orderless.cells import row_width
from orderless.errors import InvalidPaper
from orderless.expressions import value_in
from orderless.fitting import fits_expression, fits_rule
from orderless.kinds import has_row_shape, is_expression, is_name, is_rule
from orderless.states import count_states, states_for_inputs

MOST_CELLS = 10
MOST_STATES = 256


def lets_program(thing):
    """The number of states of a program; raises InvalidPaper for any other value."""
    if not has_program_shape(thing):
        raise InvalidPaper("shape", -1)
    _check_cells(thing)
    _check_rules(thing)
    _check_pairs(thing)
    _check_starts(thing)
    return count_states(thing)


def has_program_shape(thing):
    """Whether any value has the parts of a program, by their kinds alone."""
    if not isinstance(thing, tuple) or len(thing) != 4:
        return False
    cells, rules, pairs, starts = thing
    for part in (cells, rules, pairs):
        if not isinstance(part, tuple):
            return False
    if not all([has_row_shape(row) for row in cells]) or not all([is_rule(rule) for rule in rules]):
        return False
    return all([is_pair_of_names(pair) for pair in pairs]) and is_expression(starts)


def is_pair_of_names(thing):
    """Whether any value is a pair of names, of rules or not."""
    return isinstance(thing, tuple) and len(thing) == 2 and is_name(thing[0]) and is_name(thing[1])


def has_circle(pairs):
    """Whether pairs make a circle."""
    left = list(pairs)
    while left:
        others = [other for _, other in left]
        kept = [pair for pair in left if pair[0] in others]
        if len(kept) == len(left):
            return True
        left = kept
    return False


def _check_cells(program):
    cells = program[0]
    for k, row in enumerate(cells):
        name, _, low, high, is_input, _, first = row
        if k > 0 and not name > cells[k - 1][0]:
            raise InvalidPaper("cell", k)
        if not low <= first <= high:
            raise InvalidPaper("range", k)
        if is_input and first != low:
            raise InvalidPaper("input", k)
    # The cells are counted first: the states of a huge table cannot be counted cell by cell.
    if sum([row_width(row) for row in cells]) > MOST_CELLS or count_states(program) > MOST_STATES:
        raise InvalidPaper("many", -1)


def _check_rules(program):
    cells, rules, _, _ = program
    for k, rule in enumerate(rules):
        if k > 0 and not rule[0] > rules[k - 1][0]:
            raise InvalidPaper("rule", k)
        if not fits_rule(cells, rule):
            raise InvalidPaper("fit", k)


def _check_pairs(program):
    _, rules, pairs, _ = program
    names = [rule[0] for rule in rules]
    for k, pair in enumerate(pairs):
        one, other = pair
        if one == other or one not in names or other not in names:
            raise InvalidPaper("pair", k)
        if k > 0 and not pair > pairs[k - 1]:
            raise InvalidPaper("order", k)
    if has_circle(pairs):
        raise InvalidPaper("circle", -1)


def _check_starts(program):
    cells, _, _, starts = program
    if not fits_expression(cells, starts, only_inputs=True):
        raise InvalidPaper("starts", -1)
    for state in states_for_inputs(program):
        if value_in(cells, state, starts) is None:
            raise InvalidPaper("fails", -1)
