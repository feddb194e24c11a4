"""[7], [32]: touch papers."""

from orderless.pairings import are_apart, shared_cells
from orderless.rules import assigned
from orderless.states import state_at
from orderless.touchchecker import lets_touch
from orderless.touchpapers import touch_paper
from tests.samples import CELLS, FREE, PROG, SMALL, TABLES, Case, some_programs


class TouchPapersTest(Case):
    def holds(self, program, rule, other):
        """The paper of two rules, after a look at each part of it by the definitions."""
        paper = touch_paper(program, rule[0], other[0])
        self.same(paper is None, are_apart(program, rule[0], other[0]))
        if paper is None:
            return paper
        changer, cell, number, seen = paper
        self.same([type(paper), type(seen), changer in (0, 1)], [tuple, tuple, True])
        parts = (rule, other) if changer == 0 else (other, rule)

        def entries(k, n):
            return assigned(program[0], parts[k], state_at(program, n))

        def changes(k, n):
            return any(c == cell and value != state_at(program, n)[cell] for c, value in entries(k, n))

        self.assertTrue(changes(0, number))
        if len(seen) == 1:
            self.assertTrue(changes(1, seen[0]))
        else:
            first, second = [state_at(program, n) for n in seen]
            self.assertEqual([k for k in range(len(first)) if first[k] != second[k]], [cell])
            self.assertNotEqual(entries(1, seen[0]), entries(1, seen[1]))
        self.assertIn(cell, shared_cells(program, rule[0], other[0]))
        self.same(lets_touch(program, rule[0], other[0], paper), cell)
        return paper

    def test_every_two_rules_of_programs(self):
        for program in [PROG, TABLES, FREE] + some_programs(21, 60):
            for rule in program[1]:
                for other in program[1]:
                    self.holds(program, rule, other)

    def test_who_changes_and_who_sees(self):
        self.same(touch_paper(program=PROG, rule="see", other="twice")[:2], (1, 1))
        self.same(touch_paper(PROG, "twice", "see")[:2], (0, 1))
        self.same(len(touch_paper(PROG, "twice", "see")[3]), 2)

    def test_one_that_changes_without_reading(self):
        rules = (("a", 1, (("x", 1),)), ("b", 1, (("x", 1),)), ("c", 1, (("x", "x"),)))
        program = (CELLS, rules, (), 1)
        self.same([len(self.holds(program, rules[0], rules[1])[3]), len(self.holds(program, rules[0], rules[2])[3])], [1, 2])
        self.same(self.holds(program, rules[2], rules[0])[0], 1)
        self.same(self.holds(program, rules[2], rules[2]), None)

    def test_rules_that_are_apart(self):
        rules = (("a", 1, (("i", 1), ("u", 0))), ("b", 1, ((("t", 0), 1), ("u", 0))), ("c", 0, (("i", 0),)))
        program = (SMALL, rules, (), 1)
        for rule, other in ((0, 1), (1, 0), (0, 2), (2, 1), (2, 2)):
            self.same(self.holds(program, rules[rule], rules[other]), None)
        self.assertTrue(self.holds(program, rules[0], rules[0]))

    def test_pairs_and_starts_do_not_matter(self):
        other = (CELLS, PROG[1], (("see", "twice"),), 0)
        self.same(touch_paper(other, "see", "twice"), touch_paper(PROG, "see", "twice"))

    def test_unknown_rules(self):
        self.unknown(touch_paper, PROG, 2)
