"""Expressions that are the same in each state, and folding those parts that have one value."""

from orderless.expressions import value_in
from orderless.kinds import is_integer
from orderless.states import state_list


def are_same(cells, one, other):
    """Whether in each state both expressions have the same value, or both fail."""
    for state in _states_of(cells):
        if value_in(cells, state, one) != value_in(cells, state, other):
            return False
    return True


def folded(cells, expression):
    """The expression with an integer in the place of each part that has the same value in every state."""
    return _folded_in(cells, _states_of(cells), expression)


def _folded_in(cells, states, expression):
    # Parts of a part that has one value are not looked at: the integer stands for the whole of it.
    value = _only_value(cells, states, expression)
    if value is not None:
        return value
    if isinstance(expression, str):
        return expression
    if expression[0] == "at":
        return ("at", expression[1], _folded_in(cells, states, expression[2]))
    # The integer behind div and mod is no part, but folding leaves it as it is.
    return tuple([expression[0]] + [_folded_in(cells, states, part) for part in expression[1:]])


def _only_value(cells, states, expression):
    """The value that an expression has in every state, or None."""
    if is_integer(expression):
        return expression
    first = value_in(cells, states[0], expression)
    for state in states:
        if first is None or value_in(cells, state, expression) != first:
            return None
    return first


def _states_of(cells):
    return state_list((cells, (), (), 1))
