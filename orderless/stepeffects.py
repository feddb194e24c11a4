"""What steps do to what a workshop has."""

from orderless.contents import contents_of, decided_program, full_state, with_input_rows
from orderless.records import again, record_order
from orderless.states import is_start


def contents_after(contents, step):
    """A pair of the contents after a step that is not barred, and the names of the rules that were done again.

    Only setting inputs makes the record again; other steps have None instead of names.
    """
    if step[0] == "inputs":
        return _with_inputs(contents, step[1])
    effect = EFFECTS[step[0]]
    program, decisions, inputs = effect(contents, step)
    return (contents_of(program, decisions, inputs), None)


def _with_inputs(contents, inputs):
    program, decisions, _, record = contents
    start = full_state(program[0], inputs)
    if record is not None and is_start(program, start):
        new_record, names = again(decided_program(contents), record, start)
        return ((program, decisions, inputs, new_record), names)
    after = contents_of(program, decisions, inputs)
    return (after, () if after[3] is None else record_order(after[3]))


def _add_cell(contents, step):
    (cells, rules, pairs, starts), decisions, inputs, _ = contents
    more = tuple(sorted(cells + (step[1],)))
    return ((more, rules, pairs, starts), decisions, with_input_rows(cells, inputs, more))


def _remove_cell(contents, step):
    (cells, rules, pairs, starts), decisions, inputs, _ = contents
    fewer = tuple([row for row in cells if row[0] != step[1]])
    return ((fewer, rules, pairs, starts), decisions, with_input_rows(cells, inputs, fewer))


def _add_rule(contents, step):
    (cells, rules, pairs, starts), decisions, inputs, _ = contents
    return ((cells, tuple(sorted(rules + (step[1],), key=_rule_name)), pairs, starts), decisions, inputs)


def _remove_rule(contents, step):
    (cells, rules, pairs, starts), decisions, inputs, _ = contents
    name = step[1]
    kept = tuple([rule for rule in rules if rule[0] != name])
    return ((cells, kept, _others(pairs, name), starts), _others(decisions, name), inputs)


def _add_pair(contents, step):
    (cells, rules, pairs, starts), decisions, inputs, _ = contents
    return ((cells, rules, tuple(sorted(pairs + (step[1:],))), starts), decisions, inputs)


def _remove_pair(contents, step):
    (cells, rules, pairs, starts), decisions, inputs, _ = contents
    return ((cells, rules, tuple([pair for pair in pairs if pair != step[1:]]), starts), decisions, inputs)


def _set_starts(contents, step):
    (cells, rules, pairs, _), decisions, inputs, _ = contents
    return ((cells, rules, pairs, step[1]), decisions, inputs)


def _decide(contents, step):
    program, decisions, inputs, _ = contents
    return (program, tuple(sorted(decisions + (step[1:],))), inputs)


def _undecide(contents, step):
    program, decisions, inputs, _ = contents
    return (program, tuple([decision for decision in decisions if decision != step[1:]]), inputs)


def _others(pairs, name):
    """The pairs in which a rule does not occur."""
    return tuple([pair for pair in pairs if name not in pair])


def _rule_name(rule):
    return rule[0]


EFFECTS = {
    "cell": _add_cell,
    "uncell": _remove_cell,
    "rule": _add_rule,
    "unrule": _remove_rule,
    "pair": _add_pair,
    "unpair": _remove_pair,
    "starts": _set_starts,
    "decide": _decide,
    "undecide": _undecide,
}
