"""[7], [22], [27], [30] and the functions of effects."""

from itertools import product

from orderless.cells import cell_ranges
from orderless.effects import changes_of, reads_of
from orderless.errors import UnknownRule
from orderless.rules import assigned, behind, looks_of
from orderless.states import all_states
from tests.samples import CELLS, MIXED, MOVE, PROG, SAME, SMALL, TABLE, Case, chance_of, some_rule


def program_with(cells, rule):
    return (cells, (rule,), (), 1)


class EffectsTest(Case):
    def of(self, rule, reads, changes, cells=CELLS):
        program = program_with(cells, rule)
        self.same([reads_of(program, rule[0]), changes_of(program, rule[0])], [reads, changes])

    def test_the_examples(self):
        self.same([reads_of(PROG, "see"), changes_of(PROG, "see"), changes_of(PROG, "twice")], [(1,), (0,), (1,)])
        self.same([reads_of(program=PROG, rule="add"), changes_of(program=PROG, rule="add")], [(1,), (1,)])

    def test_rules_that_rest(self):
        self.of(("r", 0, (("x", "big"),)), (), ())
        self.of(("r", 1, (("x", 4),)), (), ())
        self.of(("r", ("and", "x", 0), (("x", "big"),)), (), ())
        self.of(("r", 1, (("x", 1), ("x", "big"))), (), ())

    def test_rules_that_assign_what_is_there_already(self):
        self.of(("r", 1, (("x", "x"),)), (1,), ())
        self.of(("r", ("=", "x", 2), (("x", 2),)), (1,), ())
        self.of(("r", 1, (("x", 0),)), (), (1,))
        self.of(("r", 1, (("u", 0),)), (), (), SMALL)

    def test_names_that_are_not_read(self):
        self.of(("r", ("=", "x", "x"), (("big", 1),)), (), (0,))
        self.of(("r", ("<=", "big", 1), (("big", ("*", "x", 0)),)), (), (0,))
        self.of(("r", ("or", 1, "x"), (("big", ("if", 0, "x", 1)),)), (), (0,))
        self.of(("r", ("+", "x", 1), (("big", ("<", "x", 4)),)), (), (0,))

    def test_cells_read_only_in_some_states(self):
        self.of(("r", ("and", ("=", "x", 3), "big"), (("x", 0),)), (0, 1), (1,))
        self.of(("r", ("not", "big"), (("x", "x"),)), (0, 1), ())
        self.of(("r", ("=", "x", 3), (("big", 1),)), (1,), (0,))
        self.of(("r", ("<", 2, "x"), (("big", ("-", 1, "big")),)), (0, 1), (0,))

    def test_changes_only_in_some_states(self):
        self.of(("r", ("and", "big", ("=", "x", 3)), (("big", 0), ("x", 3))), (0, 1), (0,))
        self.of(("r", ("and", "big", ("=", "x", 3)), (("big", 0), ("x", 2))), (0, 1), (0, 1))

    def test_tables(self):
        self.same([reads_of((TABLE, (MOVE, SAME), (), 1), name) for name in ("move", "same")], [(0, 1, 2), (0,)])
        self.same([changes_of((TABLE, (MOVE, SAME), (), 1), name) for name in ("move", "same")], [(1, 2), (1, 2)])
        self.of(("r", 1, ((("t", 1), 1),)), (), (2,), SMALL)
        self.of(("r", 1, (("i", ("=", ("at", "t", "i"), 0)),)), (0, 1, 2), (0,), SMALL)
        self.of(("r", ("at", "t", 2), (("i", 1),)), (), (), SMALL)
        self.of(("r", ("at", "t", "u"), (("i", 1),)), (1,), (0,), SMALL)
        # Adding 0 - u reads nothing: u has one value only.
        self.of(("r", 1, (("i", ("+", 1, "u")),)), (), (0,), SMALL)

    def test_pairs_starts_and_other_rules_do_not_matter(self):
        other = (CELLS, PROG[1], (("see", "add"), ("see", "twice")), 0)
        for name in ("add", "see", "twice"):
            self.same([reads_of(PROG, name), changes_of(PROG, name)], [reads_of(other, name), changes_of(other, name)])

    def test_without_cells(self):
        self.refuses(UnknownRule, {"name": "r"}, reads_of, ((), (), (), 1), "r")

    def test_unknown_rules(self):
        for name in ("x", "big", "", "ad"):
            self.refuses(UnknownRule, {"name": name}, reads_of, PROG, name)
            self.refuses(UnknownRule, {"name": name}, changes_of, PROG, rule=name)


class AllTest(Case):
    def some(self, many):
        chance = chance_of(7)
        for cells in (CELLS, SMALL):
            for _ in range(many):
                yield cells, some_rule(chance, cells, 3)

    def test_by_the_definitions(self):
        for cells, rule in self.some(120):
            program = program_with(cells, rule)
            states = list(all_states(program))
            reads, changes = set(), set()
            for one, other in product(states, repeat=2):
                differing = [k for k in range(len(one)) if one[k] != other[k]]
                if len(differing) == 1 and assigned(cells, rule, one) != assigned(cells, rule, other):
                    reads.add(differing[0])
            for state in states:
                after = behind(cells, rule, state)
                changes |= {k for k in range(len(state)) if state[k] != after[k]}
            self.same(reads_of(program, "r"), tuple(sorted(reads)))
            self.same(changes_of(program, "r"), tuple(sorted(changes)))

    def test_consequences(self):
        for cells, rule in self.some(60):
            program = program_with(cells, rule)
            states = list(all_states(program))
            reads, changes = reads_of(program, "r"), changes_of(program, "r")
            looked = set()
            by_reads = {}
            for state in states:
                after = behind(cells, rule, state)
                self.assertTrue(after in states)
                looks = looks_of(cells, rule, state)
                looked |= {k for k, _ in looks}
                for other in states:
                    if all(other[k] == value for k, value in looks):
                        self.same(looks_of(cells, rule, other), looks)
                        self.same(assigned(cells, rule, other), assigned(cells, rule, state))
                entries = assigned(cells, rule, state)
                self.same(by_reads.setdefault(tuple(state[k] for k in reads), entries), entries)
                for index, _ in entries or ():
                    low, high = cell_ranges(cells)[index]
                    self.assertTrue(index in reads or index in changes or low == high)
            self.assertTrue(set(reads) <= looked)

    def test_moving_through_tables_of_inputs(self):
        rule = ("r", ("=", ("at", "b", 0), 4), (("a", ("neg", "c")), (("d", 0), ("-", ("at", "b", 1), 3))))
        program = program_with(MIXED, rule)
        self.same([reads_of(program, "r"), changes_of(program, "r")], [(1, 2, 3), (0, 4)])
