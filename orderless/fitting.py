"""Which expressions and rules fit cells."""

from orderless.kinds import as_expression, is_expression, is_rule, parts_of


def names_in(expression):
    """A list of pairs (name, whether it is that of a table) of all names in an expression."""
    if isinstance(expression, str):
        return [(expression, False)]
    found = []
    if isinstance(expression, tuple) and expression[0] == "at":
        found = [(expression[1], True)]
    for part in parts_of(expression):
        found = found + names_in(part)
    return found


def fits_expression(cells, thing, *, only_inputs=False):
    """Whether any value is an expression that fits the cells, if asked for with names of inputs only."""
    if not is_expression(thing):
        return False
    rows = [row for row in cells if row[4] or not only_inputs]
    known = [(row[0], row[1] > 0) for row in rows]
    return all([pair in known for pair in names_in(thing)])


def fits_rule(cells, thing):
    """Whether any value is a rule that fits the cells."""
    if not is_rule(thing):
        return False
    _, guard, assignments = thing
    if not fits_expression(cells, guard):
        return False
    for target, value in assignments:
        if not fits_expression(cells, as_expression(target)) or not fits_expression(cells, value):
            return False
    return True
