"""[20] and the section programtexts."""

from orderless.programreadings import cell_read, expression_read, program_read, rule_read
from orderless.programtexts import cell_text, expression_text, program_text, rule_text
from tests.samples import (
    ADD, CELLS, LONG, MIXED, MOVE, PROG, SAME, SEE, TABLE, TWICE, Case, chance_of, some_expression, some_rule,
)

EXPRESSIONS = (
    (0, "0"), (7, "7"), (-7, "-7"), (10, "10"), (LONG, "9" * 60), (-LONG, "-" + "9" * 60), ("x", "x"), ("at", "at"),
    (("at", "t", ("+", "i", 1)), "( at t ( + i 1 ) )"), (("not", "x"), "( not x )"), (("neg", -1), "( neg -1 )"),
    (("+", "x", 1), "( + x 1 )"), (("-", "x", -1), "( - x -1 )"), (("*", 2, 3), "( * 2 3 )"),
    (("least", "x", 1), "( least x 1 )"), (("most", "x", 1), "( most x 1 )"), (("=", "x", 1), "( = x 1 )"),
    (("<", "x", 1), "( < x 1 )"), (("<=", "x", 1), "( <= x 1 )"), (("and", "x", 1), "( and x 1 )"),
    (("or", "or", "and"), "( or or and )"), (("div", "x", 2), "( div x 2 )"), (("mod", "x", 2), "( mod x 2 )"),
    (("if", "if", ("neg", "x"), ("not", 0)), "( if if ( neg x ) ( not 0 ) )"),
)

ROWS = (
    (("x", 0, 0, 3, True, False, 0), "x 0 0 3 0 input"), (("x", 0, -1, 3, False, True, 2), "x 0 -1 3 2 shown"),
    (("x", 12, -5, -3, True, True, -5), "x 12 -5 -3 -5 both"), (("set", 1, 0, 0, False, False, 0), "set 1 0 0 0 hidden"),
)

RULES = (
    (ADD, "add when 1 set x ( + x 1 )"),
    (SEE, "see when ( < 2 x ) set big 1"),
    (MOVE, "move when ( < i 2 ) set ( at t i ) ( + ( at t i ) 1 )"),
    (SAME, "same when 1 set ( at t 0 ) 1 set ( at t i ) 1"),
    (("when", "when", (("set", "set"),)), "when when when set set set"),
    (("rule", ("neg", "if"), (("at", "at"), (("at", "at"), ("at", "at", "at")))),
     "rule when ( neg if ) set at at set ( at at at ) ( at at at )"),
)

PROGRAMS = (
    (PROG, "cell big 0 0 1 0 shown\ncell x 0 0 3 0 input\nrule add when 1 set x ( + x 1 )\n"
           "rule see when ( < 2 x ) set big 1\nrule twice when 1 set x ( * x 2 )\nstarts 1"),
    (((), (), (), 1), "starts 1"),
    ((TABLE, (), (), ("<", "i", 2)), "cell i 0 0 3 0 input\ncell t 2 0 5 1 shown\nstarts ( < i 2 )"),
    ((CELLS[1:], (ADD, TWICE), (("add", "twice"),), "x"),
     "cell x 0 0 3 0 input\nrule add when 1 set x ( + x 1 )\nrule twice when 1 set x ( * x 2 )\npair add twice\nstarts x"),
)


class TextsTest(Case):
    def test_the_example(self):
        self.same(rule_text(MOVE), "move when ( < i 2 ) set ( at t i ) ( + ( at t i ) 1 )")

    def test_expressions(self):
        for expression, text in EXPRESSIONS:
            self.same(expression_text(expression), text)
            self.same(expression_text(expression=("neg", expression)), f"( neg {text} )")

    def test_cells(self):
        for row, text in ROWS:
            self.same(cell_text(row), text)
            self.same(cell_text(row=row), text)

    def test_rules(self):
        for rule, text in RULES:
            self.same(rule_text(rule), text)
            self.same(rule_text(rule=rule), text)

    def test_programs(self):
        for program, text in PROGRAMS:
            self.same(program_text(program), text)
            self.same(program_text(program=program), text)


class ThereAndBackTest(Case):
    def test_expressions(self):
        for expression, text in EXPRESSIONS:
            self.same(expression_read(text), expression)

    def test_cells(self):
        for row, text in ROWS:
            self.same(cell_read(text), row)

    def test_rules(self):
        for rule, text in RULES:
            self.same(rule_read(text), rule)

    def test_programs(self):
        for program, text in PROGRAMS:
            self.same(program_read(text), program)

    def test_many(self):
        chance = chance_of(20)
        for cells in (CELLS, TABLE, MIXED):
            rules = []
            for _ in range(100):
                expression = some_expression(chance, cells, 5)
                self.same(expression_read(expression_text(expression)), expression)
                rules.append(some_rule(chance, cells, 3))
                self.same(rule_read(rule_text(rules[-1])), rules[-1])
            program = (cells, tuple(rules), (("a", "b"), ("b", "a")), some_expression(chance, cells, 4))
            self.same(program_read(program_text(program)), program)

    def test_deep(self):
        deep = "x"
        for _ in range(30):
            deep = ("+", deep, ("neg", 1))
        self.same(expression_read(expression_text(deep)), deep)
