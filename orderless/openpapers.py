"""Writing papers about open pairs: traces, and tables that show that nothing is noticed."""

from orderless.alike import alike_by_prefix
from orderless.arriving import arriving_by_prefix
from orderless.lookup import rule_named
from orderless.moves import all_moves
from orderless.noticing import open_traces
from orderless.orders import prefixes_of, unordered_pairs


def pair_paper(program, one, other):
    """A pair paper of two unordered rules: ("open", start, before, behind) or ("closed", arriving, classes)."""
    rule_named(program, one)
    rule_named(program, other)
    traces = open_traces(program)
    pair = tuple(sorted((one, other)))
    if pair in traces:
        return ("open",) + traces[pair]
    return ("closed",) + _tables_of(program)


def open_paper(program):
    """An open paper (arriving, classes, rows) of a program."""
    traces = open_traces(program)
    rows = [(one, other, traces.get((one, other))) for one, other in unordered_pairs(program)]
    return _tables_of(program) + (tuple(rows),)


def _tables_of(program):
    """The pair of the table of all states that arrive and the table of all classes."""
    moves = all_moves(program)
    arriving = _table(program, arriving_by_prefix(program, moves))
    classes = _table(program, alike_by_prefix(program, moves))
    return (arriving, classes)


def _table(program, numbers_at):
    return tuple([(prefix, numbers_at[prefix]) for prefix in prefixes_of(program)])
