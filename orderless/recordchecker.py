"""The checker of records."""

from orderless.errors import InvalidPaper
from orderless.kinds import are_integers, is_integer, is_name, is_number
from orderless.orders import is_legal
from orderless.records import record_order, record_result, row_in
from orderless.rules import with_assigned
from orderless.states import is_start


def lets_record(program, thing):
    """The result of a record; raises InvalidPaper for any other value."""
    if not _has_shape(thing):
        raise InvalidPaper("shape", -1)
    start, rows, end = thing
    if not is_start(program, start):
        raise InvalidPaper("start", -1)
    if not is_legal(program, record_order(thing)):
        raise InvalidPaper("order", -1)
    state = start
    for k, (name, looked, assigns) in enumerate(rows):
        _, right_looked, right_assigns = row_in(program, name, state)
        if looked != right_looked:
            raise InvalidPaper("looked", k)
        if assigns != right_assigns:
            raise InvalidPaper("assigned", k)
        state = with_assigned(state, assigns)
    if end != state:
        raise InvalidPaper("end", -1)
    return record_result(program, thing)


def _has_shape(thing):
    if not isinstance(thing, tuple) or len(thing) != 3 or not are_integers(thing[0]) or not are_integers(thing[2]):
        return False
    return isinstance(thing[1], tuple) and all([_is_row(row) for row in thing[1]])


def _is_row(thing):
    if not isinstance(thing, tuple) or len(thing) != 3:
        return False
    name, looked, assigns = thing
    return is_name(name) and _are_entries(looked) and (assigns is None or _are_entries(assigns))


def _are_entries(thing):
    return isinstance(thing, tuple) and all([_is_entry(entry) for entry in thing])


def _is_entry(thing):
    return isinstance(thing, tuple) and len(thing) == 2 and is_number(thing[0]) and is_integer(thing[1])
