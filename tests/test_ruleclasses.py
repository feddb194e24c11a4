"""[5], [6], [13], [19] and the section ruleclasses."""

from orderless.errors import InvalidPaper, InvalidText
from orderless.expressionclasses import Cell, Choice, Expression, Formed, Gauge, Table
from orderless.programchecker import lets_program
from orderless.ruleclasses import Rule, cell_row, program_of
from orderless.rules import assigned, behind
from tests.samples import ADD, CELLS, MIXED, MOVE, PROG, SAME, SEE, TABLE, TWICE, Case

X = Cell("x")


class ExamplesTest(Case):
    def test_as_printed(self):
        add = Rule("add", (Cell("x"), Cell("x") + 1))
        found = [add.form() == ADD, add == Rule.setting("add", x=("+", "x", 1)), add(CELLS, (0, 2)), add(CELLS, (0, 3)),
                 "big" in add]
        self.same(found, [True, True, (0, 3), (0, 3), False])
        found = [program_of(CELLS[::-1], TWICE, add, SEE) == PROG, str(Rule("up", (Table("t")[Cell("i")], 1)))]
        self.same(found, [True, "up when 1 set ( at t i ) 1"])


class RuleTest(Case):
    def test_each_way_to_give_a_target(self):
        for target in (X, "x", Formed("x"), Formed(X)):
            self.same(Rule("r", (target, 1)).form(), ("r", 1, (("x", 1),)))
        key = ("+", "i", 1)
        for target in (Table("t")[key], Table("t")[Cell("i") + 1], ("t", key), ("t", Cell("i") + 1),
                       Formed(("at", "t", key)), Formed(Table("t")[key])):
            self.same(Rule("r", (target, 1)).form(), ("r", 1, ((("t", key), 1),)))
        self.same(Rule("r", (("t", 0), 1)).form(), ("r", 1, ((("t", 0), 1),)))
        self.same(Rule("r", (("at", 0), 1)).form(), ("r", 1, ((("at", 0), 1),)))

    def test_guards_and_expressions_as_objects_or_as_they_are(self):
        for guard in (X.below(2), ("<", "x", 2)):
            for value in (X + 1, ("+", "x", 1)):
                rule = Rule("r", ("x", value), guard=guard)
                self.same(rule.form(), ("r", ("<", "x", 2), (("x", ("+", "x", 1)),)))
        self.same(Rule("r", ("x", Expression()), guard=Choice(X, 1, 0)).form(), ("r", ("if", "x", 1, 0), (("x", 0),)))
        self.same(Rule("r", ("x", Gauge(name="x", factor=2, low=0, high=3))).form()[2][0][1],
                  ("most", 0, ("least", 3, ("*", 2, "x"))))
        self.same(Rule(name="r", guard=0).form()[:2], ("r", 0))

    def test_values_that_are_no_targets_stay_so(self):
        for target in (("at", "t", "i"), ("t",), (), 5, None, Formed(("t", 0)).form() + (1,)):
            self.assertIs(Rule("r", (target, 1)).fits(TABLE), False)

    def test_several_assignments_as_given(self):
        rule = Rule("r", ("y", 1), (X, 2), (("t", X), X), ("y", 3))
        self.same(rule.form(), ("r", 1, (("y", 1), ("x", 2), (("t", "x"), "x"), ("y", 3))))
        self.same(len(rule), 4)
        self.same([len(Rule("r", ("x", 1))), len(Rule("r", ("x", 1), ("x", 1)))], [1, 2])

    def test_setting(self):
        self.same(Rule.setting("r", y=X, x=2, ab=("t", 0)).form(), ("r", 1, (("ab", ("t", 0)), ("x", 2), ("y", "x"))))
        self.same(Rule.setting(name="r", guard=X, y=1).form(), ("r", "x", (("y", 1),)))
        self.same(Rule.setting("r", guard=("not", "x"), z=1, a=2).form(), ("r", ("not", "x"), (("a", 2), ("z", 1))))
        self.same(Rule.setting("r", self=1, values=2, form=3).form(), ("r", 1, (("form", 3), ("self", 1), ("values", 2))))
        self.assertIs(type(Rule.setting("r", x=1)), Rule)

    def test_what_a_rule_is_made_of_stays(self):
        pair = (X, X + 1)
        values = {"y": 1, "x": X}
        self.same(Rule("r", pair).form(), Rule.setting("r", x=X + 1).form())
        Rule.setting("r", **values)
        self.assertEqual(list(values), ["y", "x"])
        self.assertIs(pair[0], X)
        self.same(X.form(), "x")

    def test_reading(self):
        for rule in (ADD, SEE, TWICE, MOVE, SAME):
            target_first = [(target, value) for target, value in rule[2]]
            made = Rule(rule[0], *target_first, guard=rule[1])
            self.same(made.form(), rule)
            again = Rule.read(str(made))
            self.assertIs(type(again), Rule)
            self.same(again.form(), rule)
        self.same(Rule.read(text="when when when set set set").form(), ("when", "when", (("set", "set"),)))

    def test_wrong_texts(self):
        for text, field in (("", 0), ("add when 1", 3), ("add when 1 set x 1 x", 6), ("add when 1 set ( not x ) 1", 5)):
            self.refuses(InvalidText, {"line": 0, "field": field}, Rule.read, text)

    def test_texts(self):
        self.same(str(Rule("add", (X, X + 1), guard=X.below(2))), "add when ( < x 2 ) set x ( + x 1 )")
        self.same(str(Rule("r", (("t", X), -1), ("y", 0))), "r when 1 set ( at t x ) -1 set y 0")

    def test_fits(self):
        for rule in (Rule("r", (("t", "i"), 1)), Rule("r", ("i", Table("t")[99])), Rule("r", ("i", 99))):
            self.assertIs(rule.fits(TABLE), True)
            self.assertIs(rule.fits(cells=CELLS), False)
        for rule in (Rule("r", ("t", 1)), Rule("r", (("i", 0), 1)), Rule("r", ("i", 1), guard="t"),
                     Rule("r", ("i", "x")), Rule("r", (("t", "x"), 1)), Rule("r", ("i", 1), ("y", 1))):
            self.assertIs(rule.fits(TABLE), False)

    def test_assigned_and_called(self):
        for rule in (MOVE, SAME):
            made = Rule(rule[0], *rule[2], guard=rule[1])
            for state in ((0, 4, 5), (1, 4, 5), (1, 4, 4), (3, 0, 0)):
                self.same(made.assigned(TABLE, state), assigned(TABLE, rule, state))
                self.same(made(TABLE, state), behind(TABLE, rule, state))
        made = Rule("add", (X, X + 1))
        self.same(made.assigned(cells=CELLS, state=(0, 1)), ((1, 2),))
        self.same(made(cells=CELLS, state=(0, 1)), (0, 2))
        # Other cells that it fits, which belong to no program.
        self.same(made((("x", 0, -1, 9, True, False, -1),), (8,)), (9,))

    def test_in(self):
        rule = Rule("r", ("x", "y"), (("t", "u"), ("at", "v", 0)), guard="g")
        for name, right in (("x", True), ("t", True), ("y", False), ("u", False), ("v", False), ("g", False), ("r", False),
                            ("z", False)):
            self.assertIs(name in rule, right)
        longer = Rule("r", (Cell("big"), 1), (Table("tab")["i"], 1))
        self.same([name in longer for name in ("big", "tab", "b", "t", "bigger", "i")], [True, True, False, False, False, False])

    def test_equality(self):
        add = Rule("add", (X, X + 1))
        for other in (Rule.setting("add", x=X + 1), Rule.read("add when 1 set x ( + x 1 )"),
                      Rule("add", ("x", ("+", "x", 1)), guard=Formed(1))):
            self.assertIs(add == other, True)
            self.assertIs(add != other, False)
        others = (Rule("ad", (X, X + 1)), Rule("add", (X, X + 2)), Rule("add", (X, X + 1), guard=2), Rule("add", ("y", X + 1)),
                  Rule("add", (X, X + 1), (X, X + 1)), ADD, None, "add", str(add), X + 1, Formed(1), [ADD])
        for other in others:
            self.assertIs(add == other, False)
            self.assertIs(add != other, True)
            self.assertIs(other == add, False)


class CellRowTest(Case):
    def test_defaults(self):
        self.same(cell_row("x", -1, 3), ("x", 0, -1, 3, False, False, -1))
        self.same(cell_row(name="x", low=0, high=3), ("x", 0, 0, 3, False, False, 0))

    def test_without_defaults(self):
        row = cell_row("t", -1, 3, size=2, first=0, is_input=False, is_shown=True)
        self.same(row, ("t", 2, -1, 3, False, True, 0))
        self.same(cell_row("t", -1, 3, is_input=True), ("t", 0, -1, 3, True, False, -1))
        self.same(cell_row("t", 1, 3, first=0), ("t", 0, 1, 3, False, False, 0))
        self.assertRaises(TypeError, cell_row, "x", 0, 1, 2)

    def test_the_rows_of_the_examples(self):
        self.same((cell_row("big", 0, 1, is_shown=True), cell_row("x", 0, 3, is_input=True)), CELLS)
        self.same((cell_row("i", 0, 3, is_input=True), cell_row("t", 0, 5, size=2, first=1, is_shown=True)), TABLE)


class ProgramOfTest(Case):
    def stops(self, word, at, *parts, **named):
        self.refuses(InvalidPaper, {"word": word, "at": at}, program_of, *parts, **named)

    def test_parts_in_any_order(self):
        pairs = (("see", "twice"), ("add", "twice"), ("add", "see"))
        right = (CELLS, (ADD, SEE, TWICE), (("add", "see"), ("add", "twice"), ("see", "twice")), "x")
        for cells in (CELLS, CELLS[::-1]):
            for rules in ((ADD, SEE, TWICE), (TWICE, SEE, ADD), (SEE, TWICE, Rule("add", (X, X + 1)))):
                for starts in ("x", X):
                    self.same(program_of(cells, *rules, pairs=pairs, starts=starts), right)
        self.same(program_of(MIXED[::-1], starts=Table("b")[1])[0], MIXED)

    def test_defaults_and_names(self):
        self.same(program_of(()), ((), (), (), 1))
        self.same(program_of(cells=CELLS, pairs=(), starts=0), (CELLS, (), (), 0))

    def test_arguments_stay(self):
        cells, pairs, rules = CELLS[::-1], (("see", "twice"), ("add", "see")), (TWICE, SEE, ADD)
        program_of(cells, *rules, pairs=pairs)
        self.same((cells, pairs), (CELLS[::-1], (("see", "twice"), ("add", "see"))))

    def test_the_result_is_a_program(self):
        self.same(lets_program(program_of(CELLS[::-1], TWICE, SEE)), 8)

    def test_shape(self):
        for cells in (list(CELLS), (list(CELLS[0]),), (CELLS[0][:6],), (1, "x"), None, "x"):
            self.stops("shape", -1, cells)
        for rule in (None, 1, "add", (1, 2, 3), ("add", 1, ()), list(ADD), Rule("Add", (X, 1)), Rule("add", (X, True)), X):
            self.stops("shape", -1, CELLS, rule)
            self.stops("shape", -1, CELLS, ADD, rule, SEE)
        for pairs in ([], [("add", "see")], (("add",),), ("add", "see"), (("add", 1), ("add", "see")), None, (None, 1)):
            self.stops("shape", -1, CELLS, ADD, SEE, pairs=pairs)
        for starts in (None, True, "X", ("+", 1), [1], Formed(True), Rule("add", (X, 1))):
            self.stops("shape", -1, CELLS, ADD, starts=starts)

    def test_what_is_given_twice(self):
        self.stops("cell", 1, (CELLS[0], CELLS[0]))
        self.stops("cell", 2, (CELLS[1], CELLS[0], CELLS[1]))
        self.stops("rule", 1, CELLS, ADD, Rule("add", (X, X + 1)))
        self.stops("rule", 2, CELLS, TWICE, ADD, TWICE)
        self.stops("order", 1, CELLS, ADD, SEE, TWICE, pairs=(("add", "see"), ("see", "twice"), ("add", "see")))

    def test_rules_with_the_same_name_stay_as_given(self):
        wrong = ("add", 1, (("y", 1),))
        self.stops("fit", 0, CELLS, wrong, ADD)
        self.stops("rule", 1, CELLS, ADD, wrong)
        self.stops("rule", 1, CELLS, SEE, ("add", 1, (("x", 2),)), ("add", 1, (("x", 1),)))

    def test_indexes_count_the_ascending_rows(self):
        wide = ("a", 0, 0, 2, False, False, 5)
        self.stops("range", 0, CELLS + (wide,))
        self.stops("range", 2, (("z", 0, 0, 2, False, False, 5),) + CELLS)
        self.stops("input", 1, (CELLS[1], CELLS[0], ("c", 0, 0, 2, True, False, 1)))
        self.stops("fit", 0, CELLS, SEE, ("aaa", 1, (("y", 1),)), ADD)
        self.stops("fit", 3, CELLS, ("zzz", "y", (("x", 1),)), SEE, TWICE, ADD)
        self.stops("pair", 1, CELLS, ADD, SEE, TWICE, pairs=(("see", "see"), ("add", "see")))
        self.stops("pair", 0, CELLS, ADD, SEE, TWICE, pairs=(("see", "twice"), ("add", "ted")))

    def test_the_other_errors(self):
        self.stops("many", -1, tuple(cell_row(name, 0, 0) for name in "kjihgfedcba"))
        self.stops("many", -1, (cell_row("x", 0, 256),))
        self.stops("circle", -1, CELLS, ADD, SEE, pairs=(("see", "add"), ("add", "see")))
        self.stops("starts", -1, CELLS, ADD, starts=Cell("big"))
        self.stops("fails", -1, MIXED, starts=Table("b")[Cell("a")])

    def test_the_index_of_a_row_that_shares_its_name(self):
        # Rows are sorted as Python sorts, so those of one name by their other parts.
        one, other = ("x", 0, 0, 3, True, False, 9), ("x", 0, 1, 3, True, False, 1)
        self.stops("range", 0, (other, one))
        self.stops("range", 0, (one, other))
        self.stops("cell", 1, (("x", 0, 2, 3, False, False, 9), ("x", 0, 1, 3, True, False, 1)))
