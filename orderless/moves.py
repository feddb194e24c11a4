"""The moves of rules: where they lead from each state."""

from orderless.lookup import rule_named
from orderless.rules import behind
from orderless.states import state_list


def moves_of(program, rule):
    """A tuple with the number of the state behind the rule for each state, in ascending order."""
    found = rule_named(program, rule)
    states = state_list(program)
    numbers = {state: number for number, state in enumerate(states)}
    return tuple([numbers[behind(program[0], found, state)] for state in states])


def all_moves(program):
    """A dict of the moves of each rule, by its name."""
    return {rule[0]: moves_of(program, rule[0]) for rule in program[1]}
