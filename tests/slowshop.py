"""A second workshop: it has nothing but its log, and works out all that it tells anew from the steps."""

from itertools import product

from orderless.kinds import is_cell_row, is_expression, is_rule
from orderless.steplines import step_line
from tests.paperwork import is_name, is_tuple_of, is_whole
from tests.samples import Fails, slow_value
from tests.slowly import Slowly
from tests.slowrecords import done_again, slow_record

KINDS = {
    "cell": (is_cell_row,), "uncell": (is_name,), "rule": (is_rule,), "unrule": (is_name,), "pair": (is_name, is_name),
    "unpair": (is_name, is_name), "starts": (is_expression,), "decide": (is_name, is_name), "undecide": (is_name, is_name),
    "inputs": (lambda values: is_tuple_of(values, is_whole),),
}


def is_step(thing):
    if type(thing) is not tuple or not thing or type(thing[0]) is not str or thing[0] not in KINDS:
        return False
    kinds = KINDS[thing[0]]
    return len(thing) == len(kinds) + 1 and all(kind(part) for kind, part in zip(kinds, thing[1:]))


def keys_of(row):
    """The keys of the cells of a row; None is that of a plain cell."""
    return list(range(row[1])) or [None]


def names_in(e):
    """The names of plain cells and of tables in an expression, as pairs with whether it is a table."""
    if type(e) is str:
        return {(e, False)}
    if type(e) is int:
        return set()
    parts, names = (e[2:], {(e[1], True)}) if e[0] == "at" else (e[1:], set())
    return names.union(*map(names_in, parts))


def names_in_rule(rule):
    names = names_in(rule[1])
    for target, value in rule[2]:
        names |= names_in(value) | ({(target, False)} if type(target) is str else {(target[0], True)} | names_in(target[1]))
    return names


def before(pairs):
    """All pairs by chains of pairs."""
    closed = set(pairs)
    while True:
        more = {(one, last) for one, two in closed for first, last in closed if two == first} - closed
        if not more:
            return closed
        closed |= more


class SlowShop:
    def __init__(self, log):
        self.rows, self.rules, self.pairs, self.starts, self.decisions, self.values = {}, {}, set(), 1, set(), {}
        self.log = log
        for step in log:
            assert self.bars(step) is None
            getattr(self, "do_" + step[0])(*step[1:])

    def do_cell(self, row):
        self.rows[row[0]] = row
        if row[4]:
            self.values.update({(row[0], key): row[2] for key in keys_of(row)})

    def do_uncell(self, name):
        del self.rows[name]
        self.values = {place: value for place, value in self.values.items() if place[0] != name}

    def do_rule(self, rule):
        self.rules[rule[0]] = rule

    def do_unrule(self, name):
        del self.rules[name]
        self.pairs = {pair for pair in self.pairs if name not in pair}
        self.decisions = {pair for pair in self.decisions if name not in pair}

    def do_pair(self, one, other):
        self.pairs.add((one, other))

    def do_unpair(self, one, other):
        self.pairs.remove((one, other))

    def do_starts(self, e):
        self.starts = e

    def do_decide(self, one, other):
        self.decisions.add((one, other))

    def do_undecide(self, one, other):
        self.decisions.remove((one, other))

    def do_inputs(self, values):
        self.values = dict(zip(self.places(), values))

    def places(self):
        return [(name, key) for name, row in sorted(self.rows.items()) if row[4] for key in keys_of(row)]

    def bars(self, step):
        if not is_step(step):
            return "shape"
        for word in getattr(self, "bars_" + step[0])(*step[1:]):
            return word
        return None

    def bars_cell(self, row):
        if row[0] in self.rows:
            yield "name"
        rows = list(self.rows.values()) + [row]
        states = 1
        for one in rows if row[1] <= 10 else ():
            states *= (one[3] - one[2] + 1) ** max(1, one[1])
        if sum(max(1, one[1]) for one in rows) > 10 or states > 256:
            yield "full"

    def bars_uncell(self, name):
        if name not in self.rows:
            yield "name"
        if name in {used for used, _ in names_in(self.starts).union(*map(names_in_rule, self.rules.values()))}:
            yield "used"

    def bars_rule(self, rule):
        if rule[0] in self.rules:
            yield "name"
        if names_in_rule(rule) - {(name, row[1] > 0) for name, row in self.rows.items()}:
            yield "cells"
        if len(self.rules) >= 6:
            yield "full"

    def bars_unrule(self, name):
        if name not in self.rules:
            yield "name"

    def bars_pair(self, one, other):
        if one not in self.rules or other not in self.rules:
            yield "name"
        if (one, other) in self.pairs:
            yield "there"
        if one == other or (other, one) in before(self.pairs | self.decisions):
            yield "circle"

    def bars_unpair(self, one, other):
        if (one, other) not in self.pairs:
            yield "there"

    def bars_starts(self, e):
        if names_in(e) - {(name, row[1] > 0) for name, row in self.rows.items() if row[4]}:
            yield "cells"
        cells = tuple(sorted(row for row in self.rows.values() if row[4]))
        for state in product(*[range(row[2], row[3] + 1) for row in cells for _ in keys_of(row)]):
            try:
                slow_value(cells, state, e, [])
            except Fails:
                yield "fails"

    def bars_decide(self, one, other):
        if one not in self.rules or other not in self.rules:
            yield "name"
        if (one, other) in self.decisions:
            yield "there"
        if {(one, other), (other, one)} & before(self.pairs):
            yield "ordered"
        if one == other or (other, one) in before(self.pairs | self.decisions):
            yield "circle"

    def bars_undecide(self, one, other):
        if (one, other) not in self.decisions:
            yield "there"

    def bars_inputs(self, values):
        places = self.places()
        if len(values) != len(places):
            yield "many"
        if not all(self.rows[name][2] <= value <= self.rows[name][3] for (name, _), value in zip(places, values)):
            yield "range"

    def program_with(self, decisions):
        rows, rules = tuple(sorted(self.rows.values())), tuple(self.rules[name] for name in sorted(self.rules))
        return (rows, rules, tuple(sorted(self.pairs | set(decisions))), self.starts)

    def inputs(self):
        return tuple(self.values[place] for place in self.places())

    def state(self):
        return tuple(self.values.get((name, key), row[6]) for name, row in sorted(self.rows.items()) for key in keys_of(row))

    def needless_and_implied(self):
        needless, implied = [], []
        for one, other in sorted(self.decisions):
            others = self.decisions - {(one, other)}
            if (one, other) in before(self.pairs | others):
                implied.append((one, other))
            elif (min(one, other), max(one, other)) not in Slowly(self.program_with(others)).open_pairs():
                needless.append((one, other))
        return tuple(needless), tuple(implied)

    def record(self):
        slowly = Slowly(self.program_with(self.decisions))
        if self.state() not in slowly.starts:
            return None
        return slow_record(slowly.program, slowly.orders(slowly.names)[0], self.state())

    def told(self):
        """A dict of all that a workshop tells by properties, and of some that it tells by methods."""
        slowly = Slowly(self.program_with(self.decisions))
        needless, implied = self.needless_and_implied()
        open_pairs, record = slowly.open_pairs(), self.record()
        return {
            "program": self.program_with(()), "decided": slowly.program, "decisions": tuple(sorted(self.decisions)),
            "inputs": self.inputs(), "open_pairs": tuple(open_pairs), "is_settled": open_pairs == [], "record": record,
            "result": None if open_pairs or record is None else slowly.shown(record[2]), "needless": needless, "implied": implied,
            "choices": [("decide",) + pair for one in open_pairs for pair in (one, one[::-1])], "log": tuple(self.log),
            "len": len(self.rules), "str": " / ".join(map(step_line, self.log)) or "-",
        }

    def names_done_again(self, values):
        """What setting inputs tells."""
        after = SlowShop(self.log + [("inputs", values)])
        if after.record() is None:
            return ()
        if self.record() is None:
            return tuple(row[0] for row in after.record()[1])
        return done_again(self.program_with(self.decisions), self.record(), after.state())


def told_by(workshop):
    """The same of a workshop."""
    found = {name: getattr(workshop, name) for name in ("program", "decided", "decisions", "inputs", "open_pairs", "is_settled", "record", "result")}
    found.update({"needless": workshop.needless(), "implied": workshop.implied(), "choices": list(workshop.choices()), "log": workshop.log(),
                  "len": len(workshop), "str": str(workshop)})
    return found
