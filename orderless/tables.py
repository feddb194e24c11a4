"""The checker of arriving tables and class tables: tuples of pairs (prefix, numbers), one for each prefix."""

from orderless.errors import InvalidPaper
from orderless.kinds import is_name, is_number
from orderless.orders import next_rules, prefixes_of, rule_names, with_rule
from orderless.running import shown_in
from orderless.states import count_states, start_list, state_list, state_number


def is_table(thing):
    """Whether any value is a tuple of pairs of a tuple of names and a tuple of numbers."""
    return isinstance(thing, tuple) and all([_is_line(line) for line in thing])


def _is_line(thing):
    if not isinstance(thing, tuple) or len(thing) != 2:
        return False
    prefix, numbers = thing
    if not isinstance(prefix, tuple) or not isinstance(numbers, tuple):
        return False
    return all([is_name(name) for name in prefix]) and all([is_number(number) for number in numbers])


def check_tables(program, moves, tables):
    """Raises InvalidPaper if two tables, by shape, are not an arriving table and a class table."""
    for n, table in enumerate(tables):
        if tuple([prefix for prefix, _ in table]) != prefixes_of(program):
            raise InvalidPaper("prefixes", n)
    _check_arriving(program, moves, tables[0])
    _check_classes(program, moves, tables[1])


def noticed_place(program, moves, tables, pair):
    """The place of the first prefix at which the tables leave the exchange of a pair open, or None."""
    one, other = pair
    marks_at = {prefix: marks for prefix, marks in tables[1]}
    for k, (prefix, numbers) in enumerate(tables[0]):
        names = next_rules(program, prefix)
        if one in names and other in names:
            marks = marks_at[with_rule(with_rule(prefix, one), other)]
            behind_one = [marks[moves[other][moves[one][number]]] for number in numbers]
            behind_other = [marks[moves[one][moves[other][number]]] for number in numbers]
            if behind_one != behind_other:
                return k
    return None


def _check_arriving(program, moves, table):
    many = count_states(program)
    for k, (_, numbers) in enumerate(table):
        if numbers != tuple(sorted(set(numbers))) or not all([number < many for number in numbers]):
            raise InvalidPaper("numbers", k)
    numbers_at = {prefix: numbers for prefix, numbers in table}
    if not _are_among([state_number(program, start) for start in start_list(program)], numbers_at[()]):
        raise InvalidPaper("starts", -1)
    for k, (prefix, numbers) in enumerate(table):
        for j, name in enumerate(next_rules(program, prefix)):
            if not _are_among([moves[name][number] for number in numbers], numbers_at[with_rule(prefix, name)]):
                raise InvalidPaper("behind", (k, j))


def _check_classes(program, moves, table):
    for k, (_, marks) in enumerate(table):
        if len(marks) != count_states(program):
            raise InvalidPaper("marks", k)
    marks_at = {prefix: marks for prefix, marks in table}
    shown = [shown_in(program, state) for state in state_list(program)]
    if not _are_kept(marks_at[rule_names(program)], shown):
        raise InvalidPaper("shown", -1)
    for k, (prefix, marks) in enumerate(table):
        for j, name in enumerate(next_rules(program, prefix)):
            marks_behind = marks_at[with_rule(prefix, name)]
            if not _are_kept(marks, [marks_behind[number] for number in moves[name]]):
                raise InvalidPaper("classes", (k, j))


def _are_among(numbers, others):
    known = set(others)
    return all([number in known for number in numbers])


def _are_kept(marks, told):
    """Whether equal marks always have equal things told of them."""
    first = {}
    for mark, thing in zip(marks, told):
        if mark not in first:
            first[mark] = thing
        if first[mark] != thing:
            return False
    return True
