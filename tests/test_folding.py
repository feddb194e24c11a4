"""[62], [64] and the section folding."""

from orderless.effects import changes_of, reads_of
from orderless.fitting import fits_expression
from orderless.folding import are_same, folded
from orderless.states import all_states
from tests.samples import CELLS, MIXED, SMALL, TABLE, Case, Fails, chance_of, slow_value, some_expression, some_programs

FAILS = ("at", "t", 5)


def values_of(cells, e):
    """A list of the values of an expression in all states; None where it fails."""
    found = []
    for state in all_states((cells, (), (), 1)):
        try:
            found.append(slow_value(cells, state, e, []))
        except Fails:
            found.append(None)
    return found


def parts_of(e):
    """All expressions in an expression, itself among them."""
    parts = [e]
    if type(e) is tuple:
        inner = e[2:] if e[0] == "at" else e[1:2] if e[0] in ("div", "mod") else e[1:]
        for part in inner:
            parts += parts_of(part)
    return parts


class FoldingTest(Case):
    def fold(self, cells, e):
        """A folded expression that is the same, word by word as [62] states it."""
        before = repr((cells, e))
        found = folded(cells, e)
        self.assertEqual(repr((cells, e)), before)
        self.assertIs(fits_expression(cells, found), True)
        self.same(values_of(cells, found), values_of(cells, e))
        self.assertIs(are_same(cells, e, found), True)
        for part in parts_of(found):
            values = values_of(cells, part)
            if values[0] is not None and set(values) == {values[0]}:
                self.assertIs(type(part), int, (e, found, part))
        self.same(folded(cells, found), found)
        return found

    def test_the_examples(self):
        self.same([are_same(CELLS, ("*", "x", 0), 0), are_same(CELLS, ("<", "x", 4), ("=", "big", "big"))], [True, True])
        self.same(folded(CELLS, ("-", ("*", "x", 0), 2)), -2)

    def test_by_name(self):
        self.same([are_same(cells=CELLS, one="x", other="x"), folded(expression=("+", 1, 1), cells=CELLS)], [True, 2])

    def test_the_same(self):
        for cells, one, other in ((CELLS, ("+", "x", "x"), ("*", 2, "x")), (CELLS, ("not", ("not", "big")), "big"),
                                  (TABLE, ("at", "t", 2), ("at", "t", -1)), (TABLE, FAILS, ("+", FAILS, "i")),
                                  (TABLE, ("at", "t", ("mod", "i", 2)), ("if", ("mod", "i", 2), ("at", "t", 1), ("at", "t", 0))),
                                  (TABLE, ("and", 0, FAILS), 0), (TABLE, ("or", 1, FAILS), 1), (TABLE, ("if", 1, "i", FAILS), "i"),
                                  ((), ("+", 1, 2), 3)):
            self.assertIs(are_same(cells, one, other), True)
            self.assertIs(are_same(cells, other, one), True)

    def test_not_the_same(self):
        for cells, one, other in ((CELLS, "x", ("+", "x", 1)), (CELLS, ("not", ("not", "x")), "x"), (CELLS, ("<", "x", 3), 1),
                                  (TABLE, ("at", "t", "i"), 0), (TABLE, FAILS, 0), (TABLE, ("at", "t", "i"), ("at", "t", ("mod", "i", 2))),
                                  (TABLE, ("and", FAILS, 0), 0), (CELLS, 1, 2), (CELLS, ("=", "big", 0), 1), ((), 1, 0)):
            self.assertIs(are_same(cells, one, other), False)
            self.assertIs(are_same(cells, other, one), False)

    def test_parts_with_one_value(self):
        for e, right in ((5, 5), ("x", "x"), (("+", 2, 3), 5), (("+", "x", ("-", 4, 1)), ("+", "x", 3)), (("<", "x", 4), 1),
                         (("if", ("<", "x", 4), "x", "big"), ("if", 1, "x", "big")), (("=", "x", "x"), 1), (("mod", "big", 1), 0),
                         (("div", ("+", "x", ("*", 0, "x")), 2), ("div", ("+", "x", 0), 2)), (("neg", ("not", ("+", 1, "big"))), 0),
                         (("and", "x", ("or", 1, "big")), ("and", "x", 1)), (("least", "x", 3), ("least", "x", 3)),
                         (("most", "x", 3), 3)):
            self.same(self.fold(CELLS, e), right)
        for e, right in ((("at", "t", ("+", 0, 1)), ("at", "t", 1)), (("at", "t", ("mod", "i", 1)), ("at", "t", 0))):
            self.same(self.fold(TABLE, e), right)

    def test_cells_with_one_value(self):
        self.same(self.fold((("u", 0, 7, 7, False, True, 7),), "u"), 7)
        self.same(self.fold((("t", 2, 3, 3, True, False, 3),), ("+", ("at", "t", 0), ("at", "t", 1))), 6)
        self.same(self.fold((), ("if", 1, ("*", 3, 3), 0)), 9)

    def test_parts_that_fail(self):
        self.same(self.fold(TABLE, FAILS), FAILS)
        self.same(self.fold(TABLE, ("*", 0, FAILS)), ("*", 0, FAILS))
        self.same(self.fold(TABLE, ("*", 0, ("at", "t", "i"))), ("*", 0, ("at", "t", "i")))
        self.same(self.fold(TABLE, ("at", "t", ("+", 2, 3))), FAILS)
        self.same(self.fold(TABLE, ("+", ("at", "t", ("-", 2, 3)), ("*", 2, 2))), ("+", ("at", "t", -1), 4))

    def test_lazy_parts_that_would_fail(self):
        for e, right in ((("and", 0, FAILS), 0), (("or", 1, FAILS), 1), (("if", 1, 1, FAILS), 1), (("if", 0, FAILS, "i"), ("if", 0, FAILS, "i")),
                         (("if", ("<", "i", 2), ("at", "t", "i"), 0), ("if", ("<", "i", 2), ("at", "t", "i"), 0)),
                         (("and", ("<", "i", 9), ("if", 0, FAILS, ("=", "i", "i"))), 1), (("or", FAILS, 1), ("or", FAILS, 1)),
                         (("or", ("=", "i", "i"), ("at", "t", "i")), 1)):
            self.same(self.fold(TABLE, e), right)
        # The part with "and" fails for a key without a cell, so it stays; the whole has one value.
        whole = ("if", ("<", "i", 2), ("and", ("at", "t", "i"), 0), 0)
        self.same(self.fold(TABLE, whole), 0)

    def test_a_value_that_differs_in_the_last_state_only(self):
        for e in (("=", "x", 3), ("and", "big", ("=", "x", 3)), ("div", ("+", "x", "big"), 4)):
            self.same(self.fold(CELLS, e), e)
            self.assertIs(are_same(CELLS, e, 0), False)

    def test_any_expressions(self):
        chance = chance_of(51)
        for _ in range(300):
            cells = chance.choice((CELLS, SMALL, MIXED))
            one, other = some_expression(chance, cells, 4), some_expression(chance, cells, 2)
            self.fold(cells, one)
            self.assertIs(are_same(cells, one, other), values_of(cells, one) == values_of(cells, other))

    def test_folding_changes_no_effect(self):
        """[64]"""
        for program in some_programs(52, 40):
            cells, rules, pairs, starts = program
            fold = [(name, folded(cells, guard), tuple((target if type(target) is str else (target[0], folded(cells, target[1])),
                                                        folded(cells, value)) for target, value in assignments))
                    for name, guard, assignments in rules]
            other = (cells, tuple(fold), pairs, starts)
            for name, _, _ in rules:
                self.same(reads_of(other, name), reads_of(program, name))
                self.same(changes_of(other, name), changes_of(program, name))
