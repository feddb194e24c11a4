"""[12] and the section fitting."""

from orderless.fitting import fits_expression, fits_rule
from tests.samples import ADD, CELLS, MIXED, MOVE, ODD_VALUES, SAME, SEE, TABLE, TWICE, Case


class FitsExpressionTest(Case):
    def test_names_that_fit(self):
        for thing in (1, "i", ("at", "t", "i"), ("at", "t", 99), ("if", "i", ("at", "t", "i"), ("neg", "i"))):
            self.assertIs(fits_expression(TABLE, thing), True, thing)
        self.assertIs(fits_expression(cells=TABLE, thing="i", only_inputs=False), True)

    def test_names_that_do_not_fit(self):
        wrong = ("t", ("at", "i", 0), "x", ("at", "x", 0), ("at", "t", "t"), ("at", "t", ("at", "i", 0)), ("at", "t", "x"))
        for thing in wrong:
            self.assertIs(fits_expression(TABLE, thing), False, thing)
            for outer in (("not", thing), ("+", 1, thing), ("+", thing, 1), ("div", thing, 2), ("if", 1, 1, thing)):
                self.assertIs(fits_expression(TABLE, outer), False, outer)

    def test_other_values(self):
        for thing in ODD_VALUES + (["+", 1, 2], ("div", "i", 0), ("at", "t", True), ("+", "i"), ADD):
            self.assertIs(fits_expression(TABLE, thing), False, thing)
            self.assertIs(fits_expression(TABLE, thing, only_inputs=True), False, thing)

    def test_without_cells(self):
        self.assertIs(fits_expression((), ("+", 1, 2)), True)
        self.assertIs(fits_expression((), "x"), False)
        self.assertIs(fits_expression((), ("at", "x", 0)), False)

    def test_only_inputs(self):
        for thing, right in (("a", True), ("c", False), (("at", "b", 0), True), (("at", "d", 0), False), (5, True)):
            self.assertIs(fits_expression(MIXED, thing), True, thing)
            self.assertIs(fits_expression(MIXED, thing, only_inputs=True), right, thing)
            self.assertIs(fits_expression(MIXED, ("+", "a", thing), only_inputs=True), right, thing)
            self.assertIs(fits_expression(MIXED, ("at", "b", thing), only_inputs=True), right, thing)
        for thing in ("b", ("at", "a", 0), "x"):
            self.assertIs(fits_expression(MIXED, thing, only_inputs=True), False, thing)
        # What is never evaluated has to fit, too.
        self.assertIs(fits_expression(MIXED, ("and", 0, "c"), only_inputs=True), False)

    def test_only_inputs_is_given_by_name(self):
        self.assertRaises(TypeError, fits_expression, MIXED, "a", True)


class FitsRuleTest(Case):
    def test_rules_that_fit(self):
        for cells, rule in ((CELLS, ADD), (CELLS, SEE), (CELLS, TWICE), (TABLE, MOVE), (TABLE, SAME)):
            self.assertIs(fits_rule(cells, rule), True, rule)
        self.assertIs(fits_rule(cells=CELLS, thing=ADD), True)

    def test_rules_that_do_not_fit(self):
        wrong = (
            ("r", "t", (("i", 1),)),
            ("r", ("at", "i", 0), (("i", 1),)),
            ("r", "x", (("i", 1),)),
            ("r", 1, (("t", 1),)),
            ("r", 1, (("x", 1),)),
            ("r", 1, ((("i", 0), 1),)),
            ("r", 1, ((("x", 0), 1),)),
            ("r", 1, ((("t", "t"), 1),)),
            ("r", 1, ((("t", "x"), 1),)),
            ("r", 1, (("i", "t"),)),
            ("r", 1, (("i", "x"),)),
            ("r", 1, ((("t", 0), ("at", "i", 0)),)),
            ("r", 1, (("i", 1), ("x", 1))),
            ("r", 1, (("i", 1), ("i", "x"))),
        )
        for rule in wrong:
            self.assertIs(fits_rule(TABLE, rule), False, rule)

    def test_keys_and_ranges_do_not_matter(self):
        self.assertIs(fits_rule(TABLE, ("r", 1, ((("t", 99), 99), ("i", -99)))), True)

    def test_other_values(self):
        for thing in ODD_VALUES + (list(ADD), ("add", 1, ()), "x", 1, ADD[1:]):
            self.assertIs(fits_rule(CELLS, thing), False, thing)
        self.assertIs(fits_rule((), ADD), False)
