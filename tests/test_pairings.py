"""[7], [9], [10], [31], [33]: two rules."""

from orderless.effects import changes_of, reads_of
from orderless.pairings import are_apart, commute, differing_state, shared_cells
from orderless.running import run_states
from orderless.states import all_states, state_at
from tests.samples import CELLS, FREE, MIXED, NOTHING, PROG, SMALL, TABLES, Case, some_programs

# Rules over x from 0 to 3: what they do to each other is told in the tests.
ONE = ("one", 1, (("x", ("+", "x", 1)),))
TWO = ("two", 1, (("x", ("+", "x", 2)),))
THREE = ("three", 1, (("x", 3),))
ALWAYS = ("always", 1, (("x", 3),))
NEVER = ("never", 0, (("x", "big"),))
LOOK = ("look", 1, (("x", "x"),))


def program_with(*rules, cells=CELLS):
    return (cells, tuple(sorted(rules)), (), 1)


class PairingsTest(Case):
    def of(self, program, rule, other, shared, commuting):
        for one, two in ((rule, other), (other, rule)):
            self.same(shared_cells(program, one, two), shared)
            self.same(are_apart(program, one, two), shared == ())
            self.same(commute(program, one, two), commuting)
            self.same(differing_state(program, one, two) is None, commuting)

    def test_the_examples(self):
        found = [shared_cells(PROG, "see", "twice"), are_apart(PROG, "see", "twice"), commute(PROG, "see", "twice")]
        self.same(found, [(1,), False, True])
        self.same([commute(PROG, "add", "see"), differing_state(PROG, "add", "see") in (2, 6)], [False, True])
        # Only from state 2 the two orders differ; in state 6 big is 1 already.
        self.same(differing_state(PROG, "add", "see"), 2)

    def test_by_name(self):
        for function, right in ((shared_cells, (1,)), (are_apart, False), (commute, True), (differing_state, None)):
            self.same(function(other="twice", rule="see", program=PROG), right)

    def test_adding_at_most_3(self):
        program = program_with(ONE, TWO)
        self.of(program, "one", "two", (1,), False)
        self.same([run_states(program, (0, 1), "one", "two")[-1], run_states(program, (0, 1), "two", "one")[-1]],
                  [(0, 2), (0, 3)])

    def test_rules_that_share_cells_and_commute(self):
        self.of(program_with(THREE, ALWAYS), "three", "always", (1,), True)
        self.of(PROG, "see", "twice", (1,), True)
        self.of(TABLES, "same", "same", (1, 2), True)

    def test_rules_that_rest_or_change_or_read_nothing(self):
        for rule in (ONE, THREE, LOOK, NEVER):
            program = program_with(*[part for part in (rule, NEVER) if part != NEVER], NEVER)
            self.of(program, "never", rule[0], (), True)
        self.of(program_with(THREE, LOOK), "look", "three", (1,), True)
        self.of(program_with(LOOK, ("see", 1, (("big", ("<", 2, "x")),))), "look", "see", (), True)

    def test_a_rule_with_itself(self):
        for program in [PROG, TABLES, FREE] + some_programs(5, 20):
            for rule in program[1]:
                self.of(program, rule[0], rule[0], changes_of(program, rule[0]), True)

    def test_a_cell_with_one_value(self):
        first = ("f", 1, (("u", 0), ("i", 1)))
        second = ("g", 1, (("u", ("*", "u", 1)), (("t", 1), 0)))
        self.of(program_with(first, second, cells=SMALL), "f", "g", (), True)

    def test_tables(self):
        moves = ("m", ("<", "i", 1), ((("t", "i"), 1),))
        second = ("n", 1, ((("t", 1), 0),))
        third = ("o", 1, ((("t", "i"), 0),))
        program = program_with(moves, second, third, cells=SMALL)
        self.of(program, "m", "n", (), True)
        self.of(program, "m", "o", (1,), False)
        self.of(program, "n", "o", (2,), True)
        self.of(TABLES, "move", "same", (1, 2), False)
        several = ("r", 1, (("c", ("-", ("at", "b", 0), 3)), (("d", 0), 1)))
        program = program_with(several, ("s", ("at", "d", "c"), (("a", 0),)), cells=MIXED)
        self.of(program, "r", "s", (3, 4), False)

    def test_unknown_rules(self):
        for function in (shared_cells, are_apart, commute, differing_state):
            self.unknown(function, PROG, 2)
            self.unknown(function, NOTHING, 0)

    def test_by_the_definitions(self):
        for program in [PROG, TABLES, FREE] + some_programs(6, 40):
            names = [rule[0] for rule in program[1]]
            states = list(all_states(program))
            for one in names:
                for other in names:
                    changed = [set(changes_of(program, name)) for name in (one, other)]
                    touched = [set(reads_of(program, name)) | set(changes_of(program, name)) for name in (one, other)]
                    shared = tuple(sorted(changed[0] & touched[1] | changed[1] & touched[0]))
                    differ = [state for state in states
                              if run_states(program, state, one, other)[-1] != run_states(program, state, other, one)[-1]]
                    self.of(program, one, other, shared, differ == [])
                    number = differing_state(program, one, other)
                    self.assertTrue(number is None if differ == [] else state_at(program, number) in differ)

    def test_apart_rules_commute_and_assign_the_same(self):
        for program in some_programs(8, 60):
            names = [rule[0] for rule in program[1]]
            for one in names:
                for other in names:
                    if are_apart(program, one, other):
                        self.assertTrue(commute(program, one, other))
