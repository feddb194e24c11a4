"""[54], (L5) of [9] and code_of."""

from orderless.codechecker import lets_code
from orderless.codekinds import is_code
from orderless.coding import code_of
from orderless.effects import changes_of
from orderless.rules import behind
from orderless.states import all_states
from tests.samples import (
    CELLS, FREE, MIXED, NOTHING, PROG, SHOWN, SMALL, TABLE, TABLES, Case, chance_of, some_programs, some_rule,
)
from tests.slowcode import places_of, running

WIDE = (("x", 0, 0, 255, True, True, 0),)
MANY = tuple((name, 0, 0, 1, True, False, 0) for name in "abcdefg") + (("y", 0, 0, 1, False, True, 0),)
LINE = (("t", 8, 0, 1, True, True, 0),)


def program_of_one(cells, guard, *assignments):
    return (cells, (("r", guard, assignments),), (), 1)


class CodeOfTest(Case):
    def good(self, program, rule):
        """The code is good, word by word as [54] states it."""
        cells = program[0]
        before = repr(program)
        code = code_of(program, rule)
        self.assertEqual(repr(program), before)
        self.assertTrue(is_code(code))
        names = {(row[0], row[1] > 0) for row in cells}
        for i, (word, *parts) in enumerate(code):
            if word in ("load", "store"):
                self.assertIn(parts[word == "load"], places_of(cells))
            if word in ("loadat", "storeat"):
                self.assertIn((parts[word == "loadat"], True), names)
            if word in ("jump", "unless"):
                self.assertTrue(i < parts[-1] <= len(code))
        changes = changes_of(program, rule)
        ranges = [row[2:4] for row in cells for _ in range(max(1, row[1]))]
        form = [one for one in program[1] if one[0] == rule][0]
        for state in all_states(program):
            memory = list(state)
            steps = list(running(cells, code, memory))
            words = [step[0] for step in steps]
            loads = [step[2] for step in steps if step[0] == "load"]
            stores = [step[2] for step in steps if step[0] == "store"]
            self.assertNotIn("fault", words)
            self.assertEqual(words, sorted(words))
            self.assertEqual(len(loads), len(set(loads)))
            self.assertEqual(len(stores), len(set(stores)))
            for word, _, cell, value in steps:
                if word == "store":
                    self.assertIn(cell, changes)
                    self.assertTrue(ranges[cell][0] <= value <= ranges[cell][1])
            self.assertEqual(tuple(memory), behind(cells, form, state))
        self.same(lets_code(program, rule, code), len(code))
        return code

    def test_the_rules_of_the_examples(self):
        for program in (PROG, TABLES, FREE, (TABLE, (TABLES[1][0],), (), 0)):
            for rule in program[1]:
                self.good(program, rule[0])

    def test_by_name(self):
        self.same(code_of(rule="add", program=PROG), code_of(PROG, "add"))

    def test_each_kind_of_expression(self):
        for e in (3, -1, 0, "i", ("at", "t", "i"), ("at", "t", ("at", "t", 0)), ("not", "i"), ("neg", ("at", "t", 1)),
                  ("+", "i", ("at", "t", 0)), ("-", ("at", "t", 0), "i"), ("*", "i", "i"), ("least", "i", ("at", "t", 1)),
                  ("most", "i", ("at", "t", "i")), ("=", "i", 2), ("<", "i", ("at", "t", 1)), ("<=", "i", 1), ("and", "i", ("at", "t", "i")),
                  ("or", "i", ("at", "t", 1)), ("div", ("-", "i", 5), 2), ("mod", ("-", "i", 5), 3), ("if", "i", ("at", "t", "i"), 2)):
            for target in ("i", ("t", 0), ("t", "i"), ("t", ("at", "t", "i")), ("t", e)):
                self.good(program_of_one(TABLE, 1, (target, e)), "r")
            self.good(program_of_one(TABLE, e, ("i", 1), (("t", 1), e)), "r")

    def test_lazy_parts_that_would_fail(self):
        fails = ("at", "t", 5)
        for e in (("and", 0, fails), ("or", 1, fails), ("if", 1, 1, fails), ("if", 0, fails, "i"), ("and", ("<", "i", 2), ("at", "t", "i")),
                  ("or", ("<", 1, "i"), ("at", "t", "i")), ("if", ("<", "i", 2), ("at", "t", "i"), 0), fails,
                  ("and", ("at", "t", "i"), 1), ("+", "i", fails)):
            self.good(program_of_one(TABLE, 1, (("t", 0), e)), "r")
            self.good(program_of_one(TABLE, e, (("t", 1), 5)), "r")
            self.good(program_of_one(TABLE, 1, (("t", e), 3)), "r")

    def test_guards_with_many_parts(self):
        guard = 1
        for name in "abcdefg":
            guard = ("and", guard, name) if name < "e" else ("or", guard, ("not", name))
        for part in (guard, ("not", guard), ("=", guard, "c"), ("if", guard, "a", "b")):
            self.good(program_of_one(MANY, part, ("y", ("-", 1, "y")), ("a", ("=", "b", "c"))), "r")
        total = "a"
        for name in "bcdefg":
            total = ("+", total, name)
        self.good(program_of_one(MANY, ("mod", total, 3), ("y", ("mod", total, 2))), "r")

    def test_deep_expressions(self):
        left, right = "x", "x"
        for k in range(8):
            left, right = ("+", left, ("mod", "x", k + 1)), ("-", ("mod", "x", k + 1), right)
        for e in (left, right):
            self.good(program_of_one(WIDE, 1, ("x", ("mod", e, 256))), "r")

    def test_rules_that_always_rest(self):
        for guard, *assignments in ((0, ("x", 1)), (1, ("x", 4)), (1, ("x", -1)), (1, ("x", 1), ("x", 1)), (("-", "x", "x"), ("x", 1))):
            self.good(program_of_one(CELLS, guard, *assignments), "r")
        self.good(program_of_one(TABLE, 1, (("t", 2), 1)), "r")
        self.good(program_of_one(TABLE, 1, ("i", ("at", "t", -1))), "r")
        self.good(program_of_one((("u", 0, 2, 2, False, True, 2),), 1, ("u", 2)), "r")

    def test_rules_that_name_what_they_do_not_read(self):
        code = self.good(program_of_one(CELLS, ("=", "x", "x"), ("big", 1)), "r")
        self.assertNotIn("load", [instruction[0] for instruction in code])
        self.good(program_of_one(CELLS, 1, ("x", "x"), ("big", "big")), "r")
        self.good(program_of_one(CELLS, 1, ("x", "x"), ("big", ("-", 1, "big"))), "r")

    def test_many_values_and_many_cells(self):
        self.good(program_of_one(WIDE, 1, ("x", ("mod", ("+", ("*", "x", 7), 3), 256))), "r")
        self.good(program_of_one(WIDE, 1, ("x", ("+", "x", 1))), "r")
        self.good(program_of_one(LINE, 1, *[(("t", k), ("at", "t", ("mod", ("+", k, 1), 8))) for k in range(8)]), "r")
        self.good(program_of_one(LINE, 1, (("t", ("+", ("at", "t", 0), ("*", 2, ("at", "t", 1)))), ("not", ("at", "t", 7)))), "r")

    def test_any_rules(self):
        chance = chance_of(22)
        for _ in range(150):
            cells = chance.choice((CELLS, SMALL, SHOWN, MIXED))
            program = (cells, (some_rule(chance, cells, 3),), (), chance.choice((0, 1)))
            self.good(program, "r")
        for program in some_programs(23, 40):
            for rule in program[1]:
                self.good(program, rule[0])

    def test_unknown_rules(self):
        self.unknown(code_of, PROG, 1)
        self.unknown(code_of, NOTHING, 1)
