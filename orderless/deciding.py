"""Programs with decisions, and which pairs have to be decided."""

from orderless.errors import InvalidStep
from orderless.lookup import rule_named
from orderless.noticing import open_traces
from orderless.orders import unordered_pairs
from orderless.programchecker import has_circle


def decided(program, *decisions):
    """The program with these decisions as pairs, too."""
    _check_unordered(program, decisions)
    cells, rules, pairs, starts = program
    more = tuple(sorted(set(pairs + decisions)))
    if has_circle(more):
        raise InvalidStep(decisions, "circle")
    return (cells, rules, more, starts)


def unsettled_choice(program, *some):
    """A possible choice for some unordered pairs with which the program is not settled, or None.

    The two orders of the trace of an open pair differ in this pair only. So if it is not among the given ones, both
    orders keep a choice that is taken as in one of them.
    """
    _check_unordered(program, some)
    asked = [tuple(sorted(pair)) for pair in some]
    for pair, (_, before, after) in open_traces(program).items():
        if pair not in asked:
            order = before + pair + after
            return tuple([_as_in(order, one, other) for one, other in some])
    return None


def settles(program, *some):
    """Whether the program is settled with each possible choice for some unordered pairs."""
    return unsettled_choice(program, *some) is None


def _as_in(order, one, other):
    """The decision between two rules that an order keeps."""
    return (one, other) if order.index(one) < order.index(other) else (other, one)


def _check_unordered(program, pairs):
    for pair in pairs:
        for name in pair:
            rule_named(program, name)
    unordered = unordered_pairs(program)
    for pair in pairs:
        if tuple(sorted(pair)) not in unordered:
            raise InvalidStep(pair, "ordered")
