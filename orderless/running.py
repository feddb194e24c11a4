"""Running rules in orders: states, results, outcomes, and whether a program is settled."""

from orderless.cells import row_width
from orderless.lookup import rule_named
from orderless.moves import all_moves
from orderless.orders import next_rules, prefixes_by_length, rule_names, with_rule
from orderless.rules import behind
from orderless.states import start_list, state_list, state_number


def run_states(program, state, *rules):
    """A tuple of a state and of the states behind each of the named rules, done one after the other."""
    found = [rule_named(program, name) for name in rules]
    states = [state]
    for rule in found:
        states.append(behind(program[0], rule, states[-1]))
    return tuple(states)


def shown_in(program, state):
    """The tuple of the values of the shown cells."""
    shown = []
    for row in program[0]:
        shown = shown + [row[5]] * row_width(row)
    return tuple([value for value, is_shown in zip(state, shown) if is_shown])


def result_of(program, start, order):
    """The result of a legal order for a start."""
    return shown_in(program, run_states(program, start, *order)[-1])


def outcomes_of(program, start):
    """The ascending tuple of the different results of all legal orders for a start."""
    return tuple([outcome for outcome, _ in outcomes_with(program, start)])


def outcomes_with(program, start):
    """The ascending tuple of pairs (outcome, order), order being the least legal order with this result.

    Of two orders of a prefix with the same state behind them, the greater one is dropped: so it is, too, with the
    same rules behind both.
    """
    ways_to = {(): {start: ()}}
    for prefix in prefixes_by_length(program):
        for rule in program[1]:
            if rule[0] in next_rules(program, prefix):
                longer = with_rule(prefix, rule[0])
                ways = [(behind(program[0], rule, state), way + (rule[0],)) for state, way in ways_to[prefix].items()]
                ways_to[longer] = _least(list(ways_to.get(longer, {}).items()) + ways)
    ends = ways_to[rule_names(program)]
    found = _least([(shown_in(program, state), order) for state, order in ends.items()])
    return tuple(sorted(found.items()))


def is_settled(program):
    """Whether for each start all legal orders have the same result."""
    moves = all_moves(program)
    states = state_list(program)
    outcome_at = {rule_names(program): [shown_in(program, state) for state in states]}
    for prefix in prefixes_by_length(program)[::-1][1:]:
        after = [(moves[name], outcome_at[with_rule(prefix, name)]) for name in next_rules(program, prefix)]
        columns = [[outcomes[number] for number in numbers] for numbers, outcomes in after]
        outcome_at[prefix] = [_only_one(found) for found in zip(*columns)]
    outcomes = outcome_at[()]
    return all([outcomes[state_number(program, start)] is not None for start in start_list(program)])


def _only_one(outcomes):
    """The outcome that all of these are, or None if they differ; None stands for several, too."""
    first = outcomes[0]
    return first if all([outcome == first for outcome in outcomes]) else None


def _least(pairs):
    """A dict of the least second element for each first one."""
    found = {}
    for key, order in pairs:
        if key not in found or order < found[key]:
            found[key] = order
    return found
