"""The written forms of expressions, cell rows, rules and programs."""

from orderless.kinds import as_expression, is_integer


def expression_text(expression):
    """The written form of an expression."""
    if is_integer(expression):
        return str(expression)
    if isinstance(expression, str):
        return expression
    parts = " ".join([expression_text(part) for part in expression[1:]])
    return f"( {expression[0]} {parts} )"


def cell_text(row):
    """The written form of a cell row."""
    name, size, low, high, is_input, is_shown, first = row
    return f"{name} {size} {low} {high} {first} {_cell_word(is_input, is_shown)}"


def rule_text(rule):
    """The written form of a rule."""
    name, guard, assignments = rule
    sets = " ".join([_assignment_text(target, value) for target, value in assignments])
    return f"{name} when {expression_text(guard)} {sets}"


def program_text(program):
    """The written form of a program: lines with newlines between them."""
    cells, rules, pairs, starts = program
    lines = [f"cell {cell_text(row)}" for row in cells]
    lines = lines + [f"rule {rule_text(rule)}" for rule in rules]
    lines = lines + [f"pair {one} {other}" for one, other in pairs]
    return "\n".join(lines + [f"starts {expression_text(starts)}"])


def _cell_word(is_input, is_shown):
    if is_input:
        return "both" if is_shown else "input"
    return "shown" if is_shown else "hidden"


def _assignment_text(target, value):
    return f"set {expression_text(as_expression(target))} {expression_text(value)}"
