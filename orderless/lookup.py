"""Finding the rules of a program by their names."""

from orderless.errors import UnknownRule


def rule_named(program, name):
    """The rule with a name; raises UnknownRule if the program has none."""
    for rule in program[1]:
        if rule[0] == name:
            return rule
    raise UnknownRule(name)
