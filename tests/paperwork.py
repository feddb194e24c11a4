"""The verdicts of the checkers of pair papers and open papers, as the document states them, followed word by word."""

from tests.slowly import Slowly


def is_tuple_of(thing, holds):
    return type(thing) is tuple and all(holds(part) for part in thing)


def is_name(thing):
    return type(thing) is str and 1 <= len(thing) <= 8 and all("a" <= letter <= "z" for letter in thing)


def is_whole(thing):
    return type(thing) is int


def is_number(thing):
    return is_whole(thing) and thing >= 0


def is_table(thing):
    return is_tuple_of(thing, lambda row: type(row) is tuple and len(row) == 2 and is_tuple_of(row[0], is_name)
                       and is_tuple_of(row[1], is_number))


def is_trace_by_shape(thing):
    return (type(thing) is tuple and len(thing) == 3 and is_tuple_of(thing[0], is_whole)
            and is_tuple_of(thing[1], is_name) and is_tuple_of(thing[2], is_name))


class Verdicts:
    def __init__(self, program):
        self.slowly = slowly = Slowly(program)
        self.prefixes = slowly.prefixes()
        self.next_rules = {prefix: slowly.next_rules(prefix) for prefix in self.prefixes}
        self.full = slowly.names
        self.orders = slowly.orders(slowly.names)
        numbers = {state: number for number, state in enumerate(slowly.states)}
        self.starts = [numbers[start] for start in slowly.starts]
        self.moves = {name: [numbers[moved[state]] for state in slowly.states] for name, moved in slowly.moves.items()}
        self.shown = [slowly.shown(state) for state in slowly.states]

    def longer(self, prefix, *names):
        return tuple(sorted(prefix + names))

    def table_errors(self, arriving, classes):
        many = len(self.shown)
        for n, table in enumerate((arriving, classes)):
            if [row[0] for row in table] != self.prefixes:
                yield ("prefixes", n)
        for k, (_, numbers) in enumerate(arriving):
            if list(numbers) != sorted(set(numbers)) or any(number >= many for number in numbers):
                yield ("numbers", k)
        arriving, classes = dict(arriving), dict(classes)
        if any(start not in arriving[()] for start in self.starts):
            yield ("starts", -1)
        for k, prefix in enumerate(self.prefixes):
            for j, name in enumerate(self.next_rules[prefix]):
                if any(self.moves[name][number] not in arriving[self.longer(prefix, name)] for number in arriving[prefix]):
                    yield ("behind", (k, j))
        for k, prefix in enumerate(self.prefixes):
            if len(classes[prefix]) != many:
                yield ("marks", k)
        every = range(many)
        if any(classes[self.full][i] == classes[self.full][j] and self.shown[i] != self.shown[j]
               for i in every for j in every):
            yield ("shown", -1)
        for k, prefix in enumerate(self.prefixes):
            for j, name in enumerate(self.next_rules[prefix]):
                marks, after = classes[prefix], classes[self.longer(prefix, name)]
                if any(marks[x] == marks[y] and after[self.moves[name][x]] != after[self.moves[name][y]]
                       for x in every for y in every):
                    yield ("classes", (k, j))

    def noticed(self, arriving, classes, one, other):
        """The indexes of the prefixes at which the tables do not show that a pair is not noticed."""
        for k, prefix in enumerate(self.prefixes):
            if one in self.next_rules[prefix] and other in self.next_rules[prefix]:
                marks = dict(classes)[self.longer(prefix, one, other)]
                if any(marks[self.moves[other][self.moves[one][x]]] != marks[self.moves[one][self.moves[other][x]]]
                       for x in dict(arriving)[prefix]):
                    yield k

    def trace_words(self, pair, trace):
        start, before, after = trace
        orders = [before + pair + after, before + pair[::-1] + after]
        if start not in self.slowly.starts:
            yield "start"
        if any(order not in self.orders for order in orders):
            yield "order"
        if self.slowly.result(start, orders[0]) == self.slowly.result(start, orders[1]):
            yield "same"

    def of_pair(self, one, other, thing):
        """What lets_pair does: ("accepted", result), or the attributes of its error."""
        pair = (min(one, other), max(one, other))
        if type(thing) is tuple and thing[:1] == ("open",) and is_trace_by_shape(thing[1:]):
            for word in self.trace_words(pair, thing[1:]):
                return (word, -1)
            return ("accepted", "open")
        if type(thing) is tuple and len(thing) == 3 and thing[0] == "closed" and all(map(is_table, thing[1:])):
            for error in self.table_errors(*thing[1:]):
                return error
            for k in self.noticed(*thing[1:], *pair):
                return ("noticed", k)
            return ("accepted", "closed")
        return ("shape", -1)

    def of_program(self, thing):
        """What lets_open does, likewise."""
        if type(thing) is not tuple or len(thing) != 3 or not all(map(is_table, thing[:2])):
            return ("shape", -1)
        if not is_tuple_of(thing[2], lambda row: type(row) is tuple and len(row) == 3 and all(map(is_name, row[:2]))
                           and (row[2] is None or is_trace_by_shape(row[2]))):
            return ("shape", -1)
        for error in self.table_errors(*thing[:2]):
            return error
        if [row[:2] for row in thing[2]] != self.slowly.unordered():
            return ("pairs", -1)
        for i, (one, other, trace) in enumerate(thing[2]):
            for k in self.noticed(*thing[:2], one, other) if trace is None else ():
                return ("noticed", (i, k))
            for word in () if trace is None else self.trace_words((one, other), trace):
                return (word, i)
        return ("accepted", tuple(row[:2] for row in thing[2] if row[2] is not None))
