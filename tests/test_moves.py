"""[10], [26] and the section moves."""

from orderless.errors import UnknownRule
from orderless.moves import moves_of
from orderless.rules import behind
from orderless.states import all_states, state_number
from tests.samples import ADD, CELLS, PROG, TABLES, Case


class MovesTest(Case):
    def test_the_examples(self):
        self.same([moves_of(PROG, "add"), moves_of(PROG, "see")], [(1, 2, 3, 3, 5, 6, 7, 7), (0, 1, 2, 7, 4, 5, 6, 7)])

    def test_all_states(self):
        for program in (PROG, TABLES):
            for rule in program[1]:
                right = tuple(state_number(program, behind(program[0], rule, state)) for state in all_states(program))
                self.same(moves_of(program, rule[0]), right)
        self.same(moves_of(program=PROG, rule="twice"), (0, 2, 2, 3, 4, 6, 6, 7))

    def test_rules_that_rest_or_change_nothing(self):
        for rule in (("r", 0, (("x", 1),)), ("r", 1, (("x", 9),)), ("r", 1, (("x", "x"),))):
            self.same(moves_of((CELLS, (rule,), (), 1), "r"), tuple(range(8)))

    def test_pairs_and_starts_do_not_matter(self):
        self.same(moves_of((CELLS, PROG[1], (("see", "add"),), 0), "add"), moves_of(PROG, "add"))

    def test_ranges_that_do_not_begin_with_0(self):
        cells = (("x", 0, -2, 1, False, False, 0), ("y", 0, 5, 6, False, False, 5))
        program = (cells, (("up", 1, (("x", ("+", "x", 1)), ("y", ("-", 11, "y")))),), (), 1)
        self.same(moves_of(program, "up"), (3, 2, 5, 4, 7, 6, 6, 7))

    def test_unknown_rules(self):
        for name in ("x", "ad", "adds", "", "big"):
            self.refuses(UnknownRule, {"name": name}, moves_of, PROG, name)
        self.refuses(UnknownRule, {"name": "add"}, moves_of, (CELLS, (), (), 1), "add")
        self.refuses(UnknownRule, {"name": "see"}, moves_of, (CELLS, (ADD,), (), 1), rule="see")
