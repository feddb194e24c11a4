"""Records as the document states them, without a look at the modules for records."""

from orderless.rules import assigned, behind
from orderless.states import starts_of
from tests.paperwork import is_name, is_number, is_tuple_of, is_whole
from tests.samples import Fails, slow_value
from tests.slowly import Slowly


def slow_looks(cells, rule, state):
    """What a rule looks at in a state, by [16] and [66]."""
    looks = []
    _, guard, assignments = rule
    keys = {(name, key): None for name, size, *_ in cells for key in range(size)}
    try:
        if slow_value(cells, state, guard, looks):
            for target, value in assignments:
                if type(target) is tuple and (target[0], slow_value(cells, state, target[1], looks)) not in keys:
                    raise Fails
                slow_value(cells, state, value, looks)
    except Fails:
        pass
    return tuple((index, state[index]) for index in dict.fromkeys(looks))


def slow_record(program, order, start):
    rules = {rule[0]: rule for rule in program[1]}
    rows, state = [], start
    for name in order:
        rows.append((name, slow_looks(program[0], rules[name], state), assigned(program[0], rules[name], state)))
        state = behind(program[0], rules[name], state)
    return (start, tuple(rows), state)


def done_again(program, record, start):
    """The names of the rules that are done again for another start, by [68]; the state at each place is a full run's."""
    rules = {rule[0]: rule for rule in program[1]}
    names, state = [], start
    for name, looked, _ in record[1]:
        if any(state[index] != value for index, value in looked):
            names.append(name)
        state = behind(program[0], rules[name], state)
    return tuple(names)


def is_entry(thing):
    return type(thing) is tuple and len(thing) == 2 and is_number(thing[0]) and is_whole(thing[1])


def is_row(thing):
    return (type(thing) is tuple and len(thing) == 3 and is_name(thing[0]) and is_tuple_of(thing[1], is_entry)
            and (thing[2] is None or is_tuple_of(thing[2], is_entry)))


def record_errors(program, thing):
    """All errors of a record in order, as long as they can be looked for."""
    if (type(thing) is not tuple or len(thing) != 3 or not is_tuple_of(thing[0], is_whole) or not is_tuple_of(thing[2], is_whole)
            or not is_tuple_of(thing[1], is_row)):
        yield ("shape", -1)
        return
    start, rows, end = thing
    slowly = Slowly(program)
    if start not in list(starts_of(program)):
        yield ("start", -1)
    order = tuple(row[0] for row in rows)
    if order not in slowly.orders(slowly.names):
        yield ("order", -1)
        return
    _, right, right_end = slow_record(program, order, start)
    for k, row in enumerate(rows):
        if row[1] != right[k][1]:
            yield ("looked", k)
        if row[2] != right[k][2]:
            yield ("assigned", k)
    if end != right_end:
        yield ("end", -1)


def record_verdict(program, thing):
    """What lets_record does."""
    for error in record_errors(program, thing):
        return error
    return ("accepted", Slowly(program).shown(thing[2]))
