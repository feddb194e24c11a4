"""[7], [27], [28]: effect papers."""

from orderless.effectchecker import lets_effects
from orderless.effectpapers import effect_paper
from orderless.effects import changes_of, reads_of
from orderless.rules import assigned
from orderless.states import state_at
from tests.samples import CELLS, FREE, MIXED, PROG, SMALL, TABLES, Case, some_programs


class EffectPapersTest(Case):
    def holds(self, program, rule):
        """The paper of a rule, after a look at each row of it by the definitions."""
        paper = effect_paper(program, rule[0])
        self.assertEqual([len(paper), type(paper), type(paper[0]), type(paper[1])], [2, tuple, tuple, tuple])
        for cell, one, other in paper[0]:
            first, second = state_at(program, one), state_at(program, other)
            self.assertEqual([k for k in range(len(first)) if first[k] != second[k]], [cell])
            self.assertNotEqual(assigned(program[0], rule, first), assigned(program[0], rule, second))
        for cell, number in paper[1]:
            state = state_at(program, number)
            self.assertTrue(any(k == cell and value != state[k] for k, value in assigned(program[0], rule, state)))
        self.same(tuple(row[0] for row in paper[0]), reads_of(program, rule[0]))
        self.same(tuple(row[0] for row in paper[1]), changes_of(program, rule[0]))
        self.same(lets_effects(program, rule[0], paper), (reads_of(program, rule[0]), changes_of(program, rule[0])))
        return paper

    def test_all_rules_of_programs(self):
        for program in [PROG, TABLES, FREE] + some_programs(11, 60):
            for rule in program[1]:
                self.holds(program, rule)

    def test_by_name(self):
        self.same(lets_effects(PROG, "see", effect_paper(program=PROG, rule="see")), ((1,), (0,)))

    def test_rules_that_read_or_change_nothing(self):
        for cells, rule, lengths in (
                (CELLS, ("r", 0, (("x", "big"),)), (0, 0)), (CELLS, ("r", 1, (("x", 9),)), (0, 0)),
                (CELLS, ("r", ("=", "x", "x"), (("big", 1),)), (0, 1)), (CELLS, ("r", 1, (("x", "x"),)), (1, 0)),
                (SMALL, ("r", 1, (("u", 0),)), (0, 0)), (SMALL, ("r", 1, (("i", ("at", "t", "i")),)), (3, 1)),
                (MIXED, ("r", 1, (("a", -1), ("c", 0), (("d", 0), 1))), (0, 3))):
            paper = self.holds((cells, (rule,), (), 1), rule)
            self.assertEqual((len(paper[0]), len(paper[1])), lengths)

    def test_pairs_and_starts_do_not_matter(self):
        self.same(effect_paper((CELLS, PROG[1], (("see", "add"),), 0), "see"), effect_paper(PROG, "see"))

    def test_unknown_rules(self):
        self.unknown(effect_paper, PROG, 1)
