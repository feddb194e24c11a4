"""The moves of a rule: where it leads from each state."""

from orderless.lookup import rule_named
from orderless.rules import behind
from orderless.states import all_states, state_number


def moves_of(program, rule):
    """A tuple with the number of the state behind the rule for each state, in ascending order."""
    found = rule_named(program, rule)
    states = list(all_states(program))
    return tuple([state_number(program, behind(program[0], found, state)) for state in states])
