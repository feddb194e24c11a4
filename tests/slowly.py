"""The definitions of orders, states that arrive, alike states and open pairs, followed word by word."""

from itertools import combinations, permutations

from orderless.rules import behind
from orderless.states import all_states, starts_of


class Slowly:
    """All that the definitions say of a program with few rules."""

    def __init__(self, program):
        self.program = program
        self.names = tuple(rule[0] for rule in program[1])
        self.states = list(all_states(program))
        self.starts = list(starts_of(program))
        self.moves = {rule[0]: {state: behind(program[0], rule, state) for state in self.states} for rule in program[1]}
        self.flags = [row[5] for row in program[0] for _ in range(max(1, row[1]))]
        self.closed = {(one, other) for one in self.names for other in self.names if self.before(one, other)}

    def before(self, one, other):
        return any(first == one and (second == other or self.before(second, other)) for first, second in self.program[2])

    def orders(self, names):
        """All orders of some names that keep the pairs, ascending."""
        return [order for order in permutations(sorted(names))
                if all(order.index(one) < order.index(other) for one, other in self.closed if {one, other} <= set(names))]

    def rest(self, names):
        return tuple(name for name in self.names if name not in names)

    def end(self, state, order):
        for name in order:
            state = self.moves[name][state]
        return state

    def shown(self, state):
        return tuple(value for value, is_shown in zip(state, self.flags) if is_shown)

    def result(self, start, order):
        return self.shown(self.end(start, order))

    def results(self, start):
        """A dict of the least order for each result."""
        found = {}
        for order in self.orders(self.names):
            found.setdefault(self.result(start, order), order)
        return found

    def settled(self):
        return all(len(self.results(start)) == 1 for start in self.starts)

    def prefixes(self):
        return sorted({tuple(sorted(order[:many])) for order in self.orders(self.names) for many in range(len(order) + 1)})

    def next_rules(self, prefix):
        return [name for name in self.rest(prefix) if all(one in prefix for one, other in self.closed if other == name)]

    def unordered(self):
        return [pair for pair in combinations(self.names, 2) if pair not in self.closed and pair[::-1] not in self.closed]

    def exchanges(self):
        return [(prefix, one, other) for prefix in self.prefixes() for one, other in combinations(self.next_rules(prefix), 2)]

    def arriving(self, prefix):
        """The numbers of the states that arrive at a prefix."""
        return sorted({self.states.index(self.end(start, order)) for start in self.starts for order in self.orders(prefix)})

    def alike(self, prefix, one, other):
        return all(self.result(one, order) == self.result(other, order) for order in self.orders(self.rest(prefix)))

    def is_trace(self, pair, trace, prefix=None):
        """Whether a value is a trace of a pair, and of its exchange at a prefix if one is given."""
        start, before, after = trace
        orders = (before + pair + after, before + pair[::-1] + after)
        if prefix is not None and tuple(sorted(before)) != prefix:
            return False
        return (start in self.starts and all(order in self.orders(self.names) for order in orders)
                and self.result(start, orders[0]) != self.result(start, orders[1]))

    def is_noticed(self, prefix, one, other):
        afters = self.orders(self.rest(prefix + (one, other)))
        return any(self.is_trace((one, other), (start, before, after), prefix)
                   for start in self.starts for before in self.orders(prefix) for after in afters)

    def noticed(self):
        return [exchange for exchange in self.exchanges() if self.is_noticed(*exchange)]

    def open_pairs(self):
        return sorted({(one, other) for _, one, other in self.noticed()})


def with_pairs(program, *pairs):
    """A program with more pairs."""
    return program[:2] + (tuple(sorted(set(program[2] + pairs))), program[3])
