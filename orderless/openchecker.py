"""The checkers of papers about open pairs."""

from orderless.errors import InvalidPaper
from orderless.kinds import is_integer, is_name
from orderless.lookup import rule_named
from orderless.moves import all_moves
from orderless.orders import is_legal, unordered_pairs
from orderless.running import result_of
from orderless.states import is_start
from orderless.tables import check_tables, is_table, noticed_place


def lets_pair(program, one, other, thing):
    """The word open or closed of a pair paper of two unordered rules; raises InvalidPaper for any other value."""
    rule_named(program, one)
    rule_named(program, other)
    pair = tuple(sorted((one, other)))
    if not isinstance(thing, tuple) or thing == ():
        raise InvalidPaper("shape", -1)
    if thing[0] == "open" and _is_trace(thing[1:]):
        word = _wrong_in_trace(program, pair, thing[1:])
        if word is not None:
            raise InvalidPaper(word, -1)
        return "open"
    if thing[0] != "closed" or len(thing) != 3 or not is_table(thing[1]) or not is_table(thing[2]):
        raise InvalidPaper("shape", -1)
    moves = all_moves(program)
    check_tables(program, moves, thing[1:])
    place = noticed_place(program, moves, thing[1:], pair)
    if place is not None:
        raise InvalidPaper("noticed", place)
    return "closed"


def lets_open(program, thing):
    """The ascending tuple of all open pairs, as an open paper tells; raises InvalidPaper for any other value."""
    if not _has_shape(thing):
        raise InvalidPaper("shape", -1)
    tables, rows = thing[:2], thing[2]
    moves = all_moves(program)
    check_tables(program, moves, tables)
    if tuple([row[:2] for row in rows]) != unordered_pairs(program):
        raise InvalidPaper("pairs", -1)
    for i, row in enumerate(rows):
        if row[2] is None:
            place = noticed_place(program, moves, tables, row[:2])
            if place is not None:
                raise InvalidPaper("noticed", (i, place))
        else:
            word = _wrong_in_trace(program, row[:2], row[2])
            if word is not None:
                raise InvalidPaper(word, i)
    return tuple([row[:2] for row in rows if row[2] is not None])


def _has_shape(thing):
    if not isinstance(thing, tuple) or len(thing) != 3 or not is_table(thing[0]) or not is_table(thing[1]):
        return False
    return isinstance(thing[2], tuple) and all([_is_row(row) for row in thing[2]])


def _is_row(thing):
    if not isinstance(thing, tuple) or len(thing) != 3 or not is_name(thing[0]) or not is_name(thing[1]):
        return False
    return thing[2] is None or _is_trace(thing[2])


def _is_trace(thing):
    """Whether any value is a tuple of a tuple of integers and two tuples of names."""
    if not isinstance(thing, tuple) or len(thing) != 3 or not all([isinstance(part, tuple) for part in thing]):
        return False
    return all([is_integer(part) for part in thing[0]]) and all([is_name(part) for part in thing[1] + thing[2]])


def _wrong_in_trace(program, pair, trace):
    """The word for what is wrong in a trace of a pair, or None."""
    start, before, after = trace
    orders = [before + pair + after, before + pair[::-1] + after]
    if not is_start(program, start):
        return "start"
    if not all([is_legal(program, order) for order in orders]):
        return "order"
    if result_of(program, start, orders[0]) == result_of(program, start, orders[1]):
        return "same"
    return None
