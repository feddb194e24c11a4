"""[2] to [5], [11] and the section kinds."""

from orderless.kinds import is_cell_row, is_expression, is_integer, is_name, is_number, is_rule
from tests.samples import ADD, CELLS, LONG, MIXED, MOVE, ODD_VALUES, SAME, SEE, TABLE, TWICE, Case

ROW = ("abc", 2, -1, 3, False, True, 0)


class NumbersTest(Case):
    def test_integers(self):
        for thing in (0, 1, -1, 10 ** 6, LONG, -LONG):
            self.assertIs(is_integer(thing), True)
        for thing in (True, False, None, "1", "", (1,), [1], ()):
            self.assertIs(is_integer(thing), False)
        self.assertIs(is_integer(thing=1), True)

    def test_numbers(self):
        for thing in (0, 1, LONG):
            self.assertIs(is_number(thing), True)
        for thing in (-1, -LONG, True, False, None, "1", (0,), [0]):
            self.assertIs(is_number(thing), False)
        self.assertIs(is_number(thing=0), True)


class NamesTest(Case):
    def test_names(self):
        for thing in ("a", "z", "at", "not", "if", "set", "when", "rule", "abcdefgh", "zzzzzzzz"):
            self.assertIs(is_name(thing), True)
        self.assertIs(is_name(thing="x"), True)

    def test_no_names(self):
        for thing in ("", "abcdefghi", "A", "aB", "a1", "1", "a b", " a", "a ", "a.b", "a_", "a\n", "-", "+", "`", "{"):
            self.assertIs(is_name(thing), False, thing)
        for thing in (None, True, 0, 1, ("a",), ["a"], ("a", "b"), ["a", "b"], ()):
            self.assertIs(is_name(thing), False, thing)


class CellRowsTest(Case):
    def changed(self, k, part):
        return ROW[:k] + (part,) + ROW[k + 1:]

    def test_rows(self):
        for row in CELLS + TABLE + MIXED + (ROW, ("a", LONG, -LONG, LONG, True, False, -LONG), ("a", 0, 0, 0, True, True, 0)):
            self.assertIs(is_cell_row(row), True)
        self.assertIs(is_cell_row(thing=ROW), True)

    def test_wrong_parts(self):
        wrong = (
            (0, ("", "A", "abcdefghi", 1, None, ("a",))), (1, (-1, True, False, None, "1", (1,))),
            (2, (True, None, "0", 1, 4, LONG)), (3, (True, None, "0", -1, -2)), (4, (0, 1, None, "True", True)),
            (5, (0, 1, None, "True")), (6, (True, False, None, "0", -2, 4)),
        )
        for k, parts in wrong:
            for part in parts:
                self.assertIs(is_cell_row(self.changed(k, part)), False, (k, part))

    def test_bounds_of_first(self):
        for first, right in ((-2, False), (-1, True), (0, True), (3, True), (4, False)):
            self.assertIs(is_cell_row(self.changed(6, first)), right)
        # An input begins with low.
        for first, right in ((-2, False), (-1, True), (0, False), (3, False)):
            self.assertIs(is_cell_row(("a", 0, -1, 3, True, False, first)), right)

    def test_other_values(self):
        for thing in (list(ROW), ROW[:-1], ROW + (0,), ROW[1:], (ROW,)) + ODD_VALUES:
            self.assertIs(is_cell_row(thing), False, thing)


class ExpressionsTest(Case):
    def test_each_kind(self):
        right = [0, -5, LONG, "x", "abcdefgh", ("at", "t", 0), ("at", "at", "at"), ("not", "x"), ("neg", 1)]
        right += [(op, "x", -1) for op in ("+", "-", "*", "least", "most", "=", "<", "<=", "and", "or")]
        right += [("div", "x", 1), ("mod", "x", LONG), ("div", ("not", 1), 2), ("if", "x", 1, "y")]
        for thing in right:
            self.assertIs(is_expression(thing), True, thing)
            self.assertIs(is_expression(("neg", ("if", thing, thing, ("at", "t", thing)))), True, thing)
        self.assertIs(is_expression(thing=1), True)

    def test_one_part_wrong(self):
        wrong = [("at", "t"), ("at", "T", 0), ("at", 1, 0), ("at", "t", True), ("at", "t", 0, 0), ("at", ("t",), 0)]
        wrong += [("not",), ("not", 1, 2), ("not", None), ("neg",), ("neg", 1, 2), ("neg", [1])]
        for op in ("+", "-", "*", "least", "most", "=", "<", "<=", "and", "or"):
            wrong += [(op,), (op, 1), (op, 1, 2, 3), (op, True, 1), (op, 1, False), (op, 1, None), (op, "X", 1), [op, 1, 2]]
        for op in ("div", "mod"):
            wrong += [(op,), (op, "x"), (op, "x", 0), (op, "x", -1), (op, "x", "x"), (op, "x", True), (op, None, 2)]
            wrong += [(op, "x", 1, 1), (op, "x", ("+", 1, 1)), (op, True, 1)]
        wrong += [("if",), ("if", 1, 2), ("if", 1, 2, 3, 4), ("if", True, 1, 1), ("if", 1, None, 1), ("if", 1, 1, "")]
        wrong += [("/", 1, 2), (">", 1, 2), ("max", 1, 2), ("", 1), (None, 1), (1, 2, 3), ("x", 1), (("not",), 1), (["+"], 1, 2)]
        for thing in wrong + list(ODD_VALUES):
            self.assertIs(is_expression(thing), False, thing)
            self.assertIs(is_expression(("neg", thing)), False, thing)
            self.assertIs(is_expression(("if", 1, thing, 1)), False, thing)

    def test_lists_in_the_place_of_tuples(self):
        for thing in (["+", 1, 2], ("+", ["not", 1], 2), ("at", "t", ["+", 1, 2]), ["at", "t", 0]):
            self.assertIs(is_expression(thing), False)

    def test_deep_nesting(self):
        deep, wrong = "x", True
        for _ in range(30):
            deep, wrong = ("+", ("neg", 1), deep), ("+", ("neg", 1), wrong)
        self.assertIs(is_expression(deep), True)
        self.assertIs(is_expression(wrong), False)


class RulesTest(Case):
    def test_rules(self):
        for rule in (ADD, SEE, TWICE, MOVE, SAME, ("set", "when", (("at", "set"), (("at", ("not", 0)), 1)))):
            self.assertIs(is_rule(rule), True, rule)
        self.assertIs(is_rule(thing=ADD), True)

    def test_without_assignments(self):
        self.assertIs(is_rule(("add", 1, ())), False)

    def test_one_part_wrong(self):
        right = ("x", 1)
        wrong = [("Add", 1, (right,)), ("", 1, (right,)), (1, 1, (right,)), ("add", True, (right,)), ("add", "X", (right,))]
        wrong += [("add", 1), ("add", 1, (right,), ()), ("add", 1, [right]), ["add", 1, (right,)], ("add", 1, right), ("add", (right,))]
        bad = [("x",), ("x", 1, 2), ["x", 1], "x", 1, None, (), ("X", 1), (1, 1), (None, 1), ("x", True), ("x", None)]
        bad += [(("t",), 1), (("t", 0, 0), 1), (["t", 0], 1), (("T", 0), 1), ((1, 0), 1), (("t", None), 1), (("t", True), 1)]
        bad += [(("at", "t", 0), 1), (("neg", ("x",)), 1), ((), 1), (("t", 0), ("+", 1))]
        wrong += [("add", 1, (part,)) for part in bad] + [("add", 1, (right, part)) for part in bad]
        wrong += [("add", 1, (part, right)) for part in bad]
        for thing in wrong + list(ODD_VALUES):
            self.assertIs(is_rule(thing), False, thing)

    def test_ranges_and_cells_do_not_matter(self):
        self.assertIs(is_rule(("add", "nowhere", (("x", LONG), ("x", 1), (("x", 0), ("at", "x", 99))))), True)

    def test_arguments_stay(self):
        thing = ["add", [1], [["x", [1]]]]
        for kind in (is_integer, is_number, is_name, is_cell_row, is_expression, is_rule):
            self.assertIs(kind(thing), False)
        self.assertEqual(thing, ["add", [1], [["x", [1]]]])
