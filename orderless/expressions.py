"""Evaluating expressions: their values, and the cells that are looked at.

The functions return what they looked at instead of adding it to a list that they are passed: operators and
properties may use them, and these must change nothing.
"""

from orderless.cells import cell_index, found_index

LAZY = ("and", "or", "if")


def value_in(cells, state, expression):
    """The value of an expression in a state, or None if it fails."""
    value, _ = evaluated(cells, state, expression)
    return value


def looked_at(cells, state, expression):
    """The pairs (index, value) of the cells at which evaluating looks, in the order of the first look."""
    _, looks = evaluated(cells, state, expression)
    return first_looks(state, looks)


def first_looks(state, looks):
    """The pairs (index, value) for indexes of cells, each once, in the order of the first look."""
    seen = []
    for index in looks:
        if index not in seen:
            seen.append(index)
    return tuple([(index, state[index]) for index in seen])


def evaluated(cells, state, expression):
    """The value, None if it fails, and a tuple of the indexes of all looks, in order."""
    if isinstance(expression, int):
        return expression, ()
    if isinstance(expression, str):
        index = cell_index(cells, expression)
        return state[index], (index,)
    if expression[0] == "at":
        index, looks = keyed_index(cells, state, expression[1], expression[2])
        if index is None:
            return None, looks
        return state[index], looks + (index,)
    if expression[0] in LAZY:
        return _lazy_value(cells, state, expression)
    return _full_value(cells, state, expression)


def keyed_index(cells, state, table, key):
    """The index of the cell of a table with a key that is evaluated, None if this fails; and the looks of the key."""
    value, looks = evaluated(cells, state, key)
    if value is None:
        return None, looks
    return found_index(cells, table, value), looks


def _lazy_value(cells, state, expression):
    op = expression[0]
    test, looks = evaluated(cells, state, expression[1])
    if test is None:
        return None, looks
    holds = test != 0
    if op == "if":
        value, more = evaluated(cells, state, expression[2] if holds else expression[3])
        return value, looks + more
    if holds == (op == "or"):
        return int(holds), looks
    value, more = evaluated(cells, state, expression[2])
    return (None if value is None else int(value != 0)), looks + more


def _full_value(cells, state, expression):
    values = []
    looks = ()
    for part in expression[1:]:
        value, more = evaluated(cells, state, part)
        looks = looks + more
        if value is None:
            return None, looks
        values.append(value)
    if len(values) == 1:
        return _of_one(expression[0], values[0]), looks
    return value_of_two(expression[0], values[0], values[1]), looks


def _of_one(op, value):
    if op == "not":
        return int(value == 0)
    return -value


def value_of_two(op, one, other):
    """The value of an operator of two values; div and mod have other from 1 on."""
    if op == "+":
        return one + other
    if op == "-":
        return one - other
    if op == "*":
        return one * other
    if op == "div":
        return one // other
    if op == "mod":
        return one % other
    if op == "least":
        return min(one, other)
    if op == "most":
        return max(one, other)
    return int(_compared(op, one, other))


def _compared(op, one, other):
    if op == "=":
        return one == other
    if op == "<":
        return one < other
    return one <= other
