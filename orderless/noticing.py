"""Noticed exchanges, their traces, and open pairs.

What is known of a program is the tuple (moves, arriving, alike): its moves by the names of the rules, and the states
that arrive and the classes of all states by prefix.
"""

from orderless.alike import alike_by_prefix, telling_names
from orderless.arriving import arriving_by_prefix, way_to
from orderless.lookup import rule_named
from orderless.moves import all_moves
from orderless.orders import exchange_list, with_rule
from orderless.states import state_at


def trace_of(program, prefix, one, other):
    """A trace (start, before, behind) of the exchange of two rules at a prefix, or None if it is not noticed."""
    rule_named(program, one)
    rule_named(program, other)
    return _trace(program, known_of(program), prefix, tuple(sorted((one, other))))


def noticed_exchanges(program):
    """The ascending tuple of all noticed exchanges."""
    known = known_of(program)
    exchanges = exchange_list(program)
    return tuple([exchange for exchange in exchanges if _noticing_number(known, exchange[0], exchange[1:]) is not None])


def open_pairs(program):
    """The ascending tuple of all open pairs."""
    return tuple(sorted(set([(one, other) for _, one, other in noticed_exchanges(program)])))


def is_open_pair(program, one, other):
    """Whether two rules, in any order, are an open pair."""
    rule_named(program, one)
    rule_named(program, other)
    return tuple(sorted((one, other))) in open_pairs(program)


def different_orders(program):
    """A start and two legal orders with different results that differ in two neighbours only; None if settled."""
    for pair, (start, before, after) in open_traces(program).items():
        return (start, before + pair + after, before + pair[::-1] + after)
    return None


def open_traces(program):
    """A dict of a trace of each open pair."""
    known = known_of(program)
    found = {}
    for prefix, one, other in exchange_list(program):
        if (one, other) not in found:
            trace = _trace(program, known, prefix, (one, other))
            if trace is not None:
                found[(one, other)] = trace
    return found


def known_of(program):
    """What is known of a program: (moves, arriving, alike)."""
    moves = all_moves(program)
    return (moves, arriving_by_prefix(program, moves), alike_by_prefix(program, moves))


def _noticing_number(known, prefix, pair):
    """The number of a state that arrives and from which both orders of a pair are told apart later, or None."""
    moves, arriving, alike = known
    one, other = pair
    classes = alike[with_rule(with_rule(prefix, one), other)]
    for number in arriving[prefix]:
        if classes[moves[other][moves[one][number]]] != classes[moves[one][moves[other][number]]]:
            return number
    return None


def _trace(program, known, prefix, pair):
    moves, arriving, alike = known
    one, other = pair
    number = _noticing_number(known, prefix, pair)
    if number is None:
        return None
    start, before = way_to(moves, arriving, prefix, number)
    numbers = (moves[other][moves[one][number]], moves[one][moves[other][number]])
    after = telling_names(program, moves, alike, with_rule(with_rule(prefix, one), other), numbers)
    return (state_at(program, start), before, after)
