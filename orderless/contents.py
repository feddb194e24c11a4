"""What a workshop has at one time, and what belongs to it.

Contents are a tuple (program, decisions, inputs, record). The record is that of the least legal order of the decided
program for the inputs, or None if they are no start; it is kept, so that it can be made again.
"""

from orderless.cells import cell_ranges, row_width
from orderless.noticing import is_open_pair, open_pairs
from orderless.orders import first_order, is_before
from orderless.records import record_of, record_result
from orderless.running import is_settled
from orderless.states import is_start


def contents_of(program, decisions, inputs):
    """The contents with these parts, with the record of a full run."""
    record = None
    if is_start(program, full_state(program[0], inputs)):
        whole = with_decisions(program, decisions)
        record = record_of(whole, first_order(whole), full_state(program[0], inputs))
    return (program, decisions, inputs, record)


def first_contents():
    """The contents of a new workshop."""
    return contents_of(((), (), (), 1), (), ())


def full_state(cells, inputs):
    """The state with these inputs; all other cells have the value first."""
    values_of = _values_by_row(cells, inputs)
    state = ()
    for row in cells:
        state = state + values_of.get(row[0], (row[6],) * row_width(row))
    return state


def input_ranges(cells):
    """The pairs (low, high) of all input cells, in order."""
    return cell_ranges([row for row in cells if row[4]])


def with_input_rows(cells, inputs, new_cells):
    """The inputs of other cell rows: those of rows that are kept, and low for the cells of new ones."""
    values_of = _values_by_row(cells, inputs)
    values = ()
    for row in new_cells:
        if row[4]:
            values = values + values_of.get(row[0], (row[2],) * row_width(row))
    return values


def with_decisions(program, decisions):
    """The program with decisions as pairs; these may be pairs already, and ordered by pairs."""
    cells, rules, pairs, starts = program
    return (cells, rules, tuple(sorted(set(pairs + decisions))), starts)


def decided_program(contents):
    """The decided program."""
    program, decisions, _, _ = contents
    return with_decisions(program, decisions)


def open_pairs_in(contents):
    """The open pairs of the decided program."""
    return open_pairs(decided_program(contents))


def is_settled_in(contents):
    """Whether no pair is open: so it is if and only if the decided program is settled."""
    return is_settled(decided_program(contents))


def result_in(contents):
    """The result for the inputs, None if the decided program is not settled or they are no start."""
    program, _, _, record = contents
    if record is None or not is_settled_in(contents):
        return None
    return record_result(program, record)


def implied_in(contents):
    """The ascending tuple of the decisions that follow from the pairs and the other decisions."""
    decisions = contents[1]
    return tuple([decision for decision in decisions if _is_implied(contents, decision)])


def needless_in(contents):
    """The ascending tuple of the decisions that are not implied, and whose pair is not open without them."""
    decisions = contents[1]
    return tuple([decision for decision in decisions if _is_needless(contents, decision)])


def _values_by_row(cells, inputs):
    """A dict of the values of the cells of each input row, by its name."""
    found = {}
    used = 0
    for row in cells:
        if row[4]:
            found[row[0]] = inputs[used:used + row_width(row)]
            used = used + row_width(row)
    return found


def _is_implied(contents, decision):
    return is_before(_without_decision(contents, decision), decision[0], decision[1])


def _is_needless(contents, decision):
    others = _without_decision(contents, decision)
    return not _is_implied(contents, decision) and not is_open_pair(others, decision[0], decision[1])


def _without_decision(contents, decision):
    """The program with the pairs and all other decisions."""
    program, decisions, _, _ = contents
    return with_decisions(program, tuple([other for other in decisions if other != decision]))
