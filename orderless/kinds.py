"""Which values are integers, names, cell rows, expressions and rules."""

LETTERS = "abcdefghijklmnopqrstuvwxyz"
LONGEST_NAME = 8

UNARY = ("not", "neg")
BINARY = ("+", "-", "*", "least", "most", "=", "<", "<=", "and", "or")
DIVIDING = ("div", "mod")


def is_integer(thing):
    """Whether any value is an int that is not a bool."""
    return isinstance(thing, int) and not isinstance(thing, bool)


def is_number(thing):
    """Whether any value is an integer that is at least 0."""
    return is_integer(thing) and thing >= 0


def is_name(thing):
    """Whether any value is a string of one to eight lowercase letters."""
    if not isinstance(thing, str) or not 1 <= len(thing) <= LONGEST_NAME:
        return False
    return all([letter in LETTERS for letter in thing])


def are_names(thing):
    """Whether any value is a tuple of names."""
    return isinstance(thing, tuple) and all([is_name(name) for name in thing])


def are_integers(thing):
    """Whether any value is a tuple of integers."""
    return isinstance(thing, tuple) and all([is_integer(part) for part in thing])


def has_row_shape(thing):
    """Whether any value has the parts of a cell row, perhaps with wrong ranges."""
    if not isinstance(thing, tuple) or len(thing) != 7:
        return False
    name, size, low, high, is_input, is_shown, first = thing
    if not is_name(name) or not is_number(size):
        return False
    if not isinstance(is_input, bool) or not isinstance(is_shown, bool):
        return False
    return is_integer(low) and is_integer(high) and is_integer(first)


def is_cell_row(thing):
    """Whether any value is a cell row."""
    if not has_row_shape(thing):
        return False
    _, _, low, high, is_input, _, first = thing
    return low <= first <= high and (first == low or not is_input)


def part_count(op):
    """How many parts, all of them expressions, stand behind an operator; None if it is no such operator."""
    if op in UNARY:
        return 1
    if op in BINARY:
        return 2
    if op == "if":
        return 3
    return None


def parts_of(thing):
    """A tuple of what must be expressions for any value to be one, or None if it cannot be one."""
    if is_integer(thing) or is_name(thing):
        return ()
    if not isinstance(thing, tuple) or len(thing) < 2:
        return None
    op = thing[0]
    if op == "at":
        return thing[2:] if len(thing) == 3 and is_name(thing[1]) else None
    if op in DIVIDING:
        return thing[1:2] if len(thing) == 3 and is_integer(thing[2]) and thing[2] >= 1 else None
    return thing[1:] if part_count(op) == len(thing) - 1 else None


def is_expression(thing):
    """Whether any value is an expression; the names of cells do not matter."""
    parts = parts_of(thing)
    if parts is None:
        return False
    for part in parts:
        if not is_expression(part):
            return False
    return True


def as_expression(target):
    """The expression that stands for the cell of a target."""
    if isinstance(target, tuple):
        return ("at", target[0], target[1])
    return target


def as_target(expression):
    """The target for a name, or for an expression with at."""
    if isinstance(expression, str):
        return expression
    return (expression[1], expression[2])


def is_target(thing):
    """Whether any value is a name, or a pair of a name and an expression."""
    return is_name(thing) or (isinstance(thing, tuple) and len(thing) == 2 and is_expression(as_expression(thing)))


def is_assignment(thing):
    """Whether any value is a pair of a target and an expression."""
    return isinstance(thing, tuple) and len(thing) == 2 and is_target(thing[0]) and is_expression(thing[1])


def is_rule(thing):
    """Whether any value is a rule; the names of cells do not matter."""
    if not isinstance(thing, tuple) or len(thing) != 3:
        return False
    name, guard, assignments = thing
    if not is_name(name) or not is_expression(guard) or not isinstance(assignments, tuple):
        return False
    return len(assignments) > 0 and all([is_assignment(assignment) for assignment in assignments])
