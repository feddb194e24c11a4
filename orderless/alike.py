"""States that are alike at prefixes: what the remaining rules lead to shows the same."""

from orderless.moves import all_moves
from orderless.orders import next_rules, prefixes_by_length, rule_names, with_rule
from orderless.running import shown_in
from orderless.states import state_list, state_number


def alike_at(program, prefix):
    """A tuple with the class of each state at a prefix: the least number of a state that is alike with it."""
    return alike_by_prefix(program, all_moves(program))[prefix]


def alike_by_prefix(program, moves):
    """A dict of what alike_at tells for each prefix."""
    shown = [shown_in(program, state) for state in state_list(program)]
    found = {rule_names(program): _first_places(shown)}
    for prefix in prefixes_by_length(program)[::-1][1:]:
        columns = []
        for name in next_rules(program, prefix):
            classes = found[with_rule(prefix, name)]
            columns.append([classes[number] for number in moves[name]])
        found[prefix] = _first_places(list(zip(*columns)))
    return found


def _first_places(keys):
    """A tuple with the first place of an equal key for each key."""
    first = {}
    places = []
    for place, key in enumerate(keys):
        if key not in first:
            first[key] = place
        places.append(first[key])
    return tuple(places)


def telling_order(program, prefix, one, other):
    """A legal order of the remaining rules that tells two states apart at a prefix, or None."""
    moves = all_moves(program)
    numbers = (state_number(program, one), state_number(program, other))
    return telling_names(program, moves, alike_by_prefix(program, moves), prefix, numbers)


def telling_names(program, moves, alike, prefix, numbers):
    """The order that tells the states with two numbers apart, or None; alike as alike_by_prefix returns it."""
    one, other = numbers
    if alike[prefix][one] == alike[prefix][other]:
        return None
    order = ()
    done = prefix
    while done != rule_names(program):
        name = _telling_rule(program, moves, alike, done, (one, other))
        one, other = moves[name][one], moves[name][other]
        done = with_rule(done, name)
        order = order + (name,)
    return order


def _telling_rule(program, moves, alike, prefix, numbers):
    """The first next rule behind which two states are still told apart."""
    one, other = numbers
    for name in next_rules(program, prefix):
        classes = alike[with_rule(prefix, name)]
        if classes[moves[name][one]] != classes[moves[name][other]]:
            return name
    return None
