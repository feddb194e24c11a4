"""Programs, values and helpers that several tests use."""

import random
import unittest

from orderless.errors import InvalidPaper, UnknownRule

ADD = ("add", 1, (("x", ("+", "x", 1)),))
TWICE = ("twice", 1, (("x", ("*", "x", 2)),))
SEE = ("see", ("<", 2, "x"), (("big", 1),))
CELLS = (("big", 0, 0, 1, False, True, 0), ("x", 0, 0, 3, True, False, 0))
PROG = (CELLS, (ADD, SEE, TWICE), (), 1)

TABLE = (("i", 0, 0, 3, True, False, 0), ("t", 2, 0, 5, False, True, 1))
MOVE = ("move", ("<", "i", 2), ((("t", "i"), ("+", ("at", "t", "i"), 1)),))
SAME = ("same", 1, ((("t", 0), 1), (("t", "i"), 1)))

# A plain input, a table of inputs, a hidden cell and a shown table; ranges below and above zero.
MIXED = (
    ("a", 0, -2, 1, True, False, -2),
    ("b", 2, 3, 4, True, True, 3),
    ("c", 0, -1, 1, False, False, 0),
    ("d", 1, 0, 1, False, True, 1),
)

# A table as in TABLE, but with fewer values, and a hidden cell with one value only.
SMALL = (("i", 0, 0, 1, True, False, 0), ("t", 2, -1, 1, False, True, 0), ("u", 0, 0, 0, False, False, 0))

SHOWN = (("p", 0, 0, 2, True, True, 0), ("q", 0, -1, 1, False, True, 1))

PAIRED = (CELLS, (ADD, SEE, TWICE), (("add", "see"),), 1)
CHAIN = (CELLS, (ADD, SEE, TWICE), (("add", "twice"), ("twice", "see")), 1)
TABLES = (TABLE, (MOVE, SAME), (), 1)
NOTHING = ((), (), (), 1)


def free_rules(many):
    """Rules a, b and so on: each keeps in x the digits of those that were done, up to two rules back."""
    return tuple((name, 1, (("x", ("mod", ("+", ("*", "x", 3), k + 1), 9)),)) for k, name in enumerate("abcdef"[:many]))


NINE = (("x", 0, 0, 8, True, True, 0),)
FREE = (NINE, free_rules(6), (), 1)

LONG = 10 ** 60 - 1

# One value of each kind of "any value", none of which is an expression, a rule or a cell row.
ODD_VALUES = (
    None, True, False, "", "X", "a b", "abcdefghi", "a1", "x\n", (), (1,), ("x",), [], [1], ["x", 1], ((),),
    ("x", "y"), [("x", 1)], ("add", 1, ()), (None, None, None), ("at",), ("+",), ("not",), (True, 1, 2),
)


class Case(unittest.TestCase):
    """A test case that looks at the attributes of errors."""

    def refuses(self, kind, told, function, *parts, **named):
        """Calling raises exactly this error, with these attributes, and changes no argument."""
        before = repr((parts, named))
        with self.assertRaises(kind) as caught:
            function(*parts, **named)
        self.assertEqual(repr((parts, named)), before)
        self.assertIs(type(caught.exception), kind)
        self.same(vars(caught.exception), told)

    def same(self, one, other):
        """Two values are equal, with equal kinds of all their parts."""
        self.assertEqual(repr(one), repr(other))
        self.assertEqual(one, other)


    def unknown(self, function, program, many, *more):
        """A function of a program and of so many names tells the first name, place by place, that is no rule."""
        known = [rule[0] for rule in program[1]][:1] * many
        for k in range(many):
            for name in ("x", "big", "", "ad", "adds", "ADD"):
                names = known[:k] + [name] + ["other"] * (many - k - 1)
                self.refuses(UnknownRule, {"name": name}, function, program, *names, *more)

    def verdict(self, function, *parts):
        """What a checker returns, or the pair of the attributes of its error; it changes no argument."""
        before = repr(parts)
        try:
            found = ("accepted", function(*parts))
        except InvalidPaper as error:
            found = (error.word, error.at)
        self.assertEqual(repr(parts), before)
        return found


OTHER_PARTS = (None, True, False, -1, 0, 1, 2, 3, 10 ** 59, "x", "add", "see", (), [], (0,), (0, 1))


def changed_once(value):
    """Values that are got by changing a value, or one part of it at any depth."""
    yield from OTHER_PARTS
    if type(value) is int:
        yield from (value - 1, value + 1)
    if type(value) is tuple:
        yield list(value)
        for k, part in enumerate(value):
            yield value[:k] + value[k + 1:]
            yield value[:k + 1] + value[k:]
            yield value[:k] + value[k + 1:k + 2] + value[k:k + 1] + value[k + 2:]
            for other in changed_once(part):
                yield value[:k] + (other,) + value[k + 1:]


class Fails(Exception):
    """An expression fails."""


def slow_value(cells, state, expression, looks):
    """A second evaluator, written apart: raises Fails, and adds the written names of cells to looks."""
    places = {}
    for name, size, *_ in cells:
        for key in range(size) if size else (None,):
            places[(name, key)] = len(places)

    def look(name, key):
        if (name, key) not in places:
            raise Fails
        looks.append(places[(name, key)])
        return state[places[(name, key)]]

    def value(e):
        if isinstance(e, int):
            return e
        if isinstance(e, str):
            return look(e, None)
        op, *parts = e
        if op == "at":
            return look(parts[0], value(parts[1]))
        lazy = {
            "and": lambda: int(bool(value(parts[0]) and value(parts[1]))),
            "or": lambda: int(bool(value(parts[0]) or value(parts[1]))),
            "if": lambda: value(parts[1]) if value(parts[0]) else value(parts[2]),
        }
        if op in lazy:
            return lazy[op]()
        values = [value(part) for part in parts]
        return {
            "not": lambda p: int(not p), "neg": lambda p: -p, "+": lambda p, q: p + q, "-": lambda p, q: p - q,
            "*": lambda p, q: p * q, "least": lambda p, q: sorted((p, q))[0], "most": lambda p, q: sorted((p, q))[1],
            "=": lambda p, q: int(p == q), "<": lambda p, q: int(p < q), "<=": lambda p, q: int(p <= q),
            "div": lambda p, q: (p - p % q) // q, "mod": lambda p, q: p - q * (p // q),
        }[op](*values)

    return value(expression)


def some_expression(chance, cells, depth):
    """An expression that fits the cells, made by a given source of chance."""
    if depth == 0 or chance.random() < 0.15:
        plain = [row[0] for row in cells if row[1] == 0]
        return chance.choice([chance.randint(-3, 3)] + plain)
    tables = [row[0] for row in cells if row[1] > 0]
    op = chance.choice(("at", "not", "neg", "+", "-", "*", "least", "most", "=", "<", "<=", "and", "or",
                        "div", "mod", "if"))
    if op == "at":
        return ("at", chance.choice(tables), some_expression(chance, cells, depth - 1)) if tables else 1
    if op in ("div", "mod"):
        return (op, some_expression(chance, cells, depth - 1), chance.randint(1, 3))
    many = {"not": 1, "neg": 1, "if": 3}.get(op, 2)
    return (op,) + tuple(some_expression(chance, cells, depth - 1) for _ in range(many))


def lively_rule(chance, cells, depth):
    """A rule that fits the cells, and seldom rests: its values are brought into the ranges, its keys into the tables."""
    _, size, low, high, *_ = row = chance.choice(cells)
    part = some_expression(chance, cells, depth)
    value = ("+", low, ("mod", part, high - low + 1)) if low else ("mod", part, high + 1)
    target = (row[0], ("mod", some_expression(chance, cells, depth - 1), size)) if size else row[0]
    guard = chance.choice((1, 1, some_expression(chance, cells, 1)))
    return ("r", guard, ((target, value),))


def some_program(chance, cells, many):
    """A program of so many rules, made by a given source of chance."""
    names = "abcdef"[:many]
    makers = (some_rule, lively_rule, lively_rule, lively_rule)
    rules = tuple((name,) + chance.choice(makers)(chance, cells, 2)[1:] for name in names)
    order = chance.sample(names, many)
    pairs = [(one, other) for k, one in enumerate(order) for other in order[k + 1:] if chance.random() < 0.2]
    inputs = [row[0] for row in cells if row[4] and row[1] == 0]
    starts = chance.choice([1, 1] + [("<", name, 1) for name in inputs])
    return (cells, rules, tuple(sorted(pairs)), starts)


def some_programs(seed, many):
    """So many programs of at most four rules, always the same ones."""
    chance = chance_of(seed)
    kinds = (CELLS, SMALL, SHOWN, SHOWN)
    return [some_program(chance, chance.choice(kinds), chance.choice((1, 2, 3, 3, 4, 4))) for _ in range(many)]


def some_rule(chance, cells, depth):
    """A rule that fits the cells, made by a given source of chance."""
    assignments = []
    for _ in range(chance.randint(1, 3)):
        row = chance.choice(cells)
        target = row[0] if row[1] == 0 else (row[0], some_expression(chance, cells, depth - 1))
        assignments.append((target, some_expression(chance, cells, depth)))
    guard = chance.choice((1, some_expression(chance, cells, depth)))
    return ("r", guard, tuple(assignments))


def chance_of(seed):
    """A source of chance that is the same in every run."""
    return random.Random(seed)


# Loads x, adds 1, and stores it if it is at most 3.
CODE = (("load", 0, "x"), ("const", 1, 1), ("do", "+", 0, 0, 1), ("const", 1, 3), ("do", "<=", 1, 0, 1), ("unless", 1, 7),
        ("store", "x", 0))

OPERATORS = ("+", "-", "*", "least", "most", "=", "<", "<=", "div", "mod")


def some_instruction(chance, cells, i, many):
    """An instruction that fits the cells, at index i of so many."""
    row = chance.choice(cells)
    place = (row[0], chance.randrange(row[1])) if row[1] else row[0]
    tables = [row[0] for row in cells if row[1]]
    r, s, u = (chance.choice((0, 0, 1, 2, 31)) for _ in range(3))
    kinds = ["const", "do", "do", "load", "load", "store", "jump", "unless", "end"] + ["loadat", "storeat"] * bool(tables)
    return {
        "const": lambda: ("const", r, chance.choice((0, 1, 1, 2, -1, 5, 10 ** 59))),
        "do": lambda: ("do", chance.choice(OPERATORS), r, s, u),
        "load": lambda: ("load", r, place), "store": lambda: ("store", place, r),
        "loadat": lambda: ("loadat", r, chance.choice(tables), s), "storeat": lambda: ("storeat", chance.choice(tables), s, r),
        "jump": lambda: ("jump", chance.randint(i + 1, many)), "unless": lambda: ("unless", s, chance.randint(i + 1, many)),
        "end": lambda: ("end",) if chance.random() < 0.2 else ("load", r, place),
    }[chance.choice(kinds)]()


def some_code(chance, cells, many):
    """Code of so many instructions that fits the cells, made by a given source of chance."""
    return tuple(some_instruction(chance, cells, i, many) for i in range(many))
