"""The states that arrive at prefixes, and how they get there."""

from orderless.moves import all_moves
from orderless.orders import prefixes_by_length
from orderless.states import start_list, state_number


def arriving_at(program, prefix):
    """The numbers of the states that arrive at a prefix, ascending."""
    return arriving_by_prefix(program, all_moves(program))[prefix]


def arriving_by_prefix(program, moves):
    """A dict of the numbers of the states that arrive, ascending, for each prefix."""
    starts = start_list(program)
    found = {}
    for prefix in prefixes_by_length(program):
        numbers = [state_number(program, start) for start in starts] if prefix == () else []
        for name in prefix:
            shorter = without_name(prefix, name)
            if shorter in found:
                numbers = numbers + [moves[name][number] for number in found[shorter]]
        found[prefix] = tuple(sorted(set(numbers)))
    return found


def way_to(moves, arriving, prefix, number):
    """A pair (number of a start, legal order of the prefix): one that leads to the state with this number."""
    order = ()
    left = prefix
    place = number
    while left != ():
        name, place = _step_to(moves, arriving, left, place)
        left = without_name(left, name)
        order = (name,) + order
    return (place, order)


def without_name(prefix, name):
    """A tuple of the other names of a prefix."""
    return tuple([one for one in prefix if one != name])


def _step_to(moves, arriving, prefix, number):
    """A last rule of the prefix, and a state that arrives without it, from which it leads to a state that arrives."""
    for name in prefix:
        for place in arriving.get(without_name(prefix, name), ()):
            if moves[name][place] == number:
                return (name, place)
    return None
