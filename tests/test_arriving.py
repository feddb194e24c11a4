"""[38]: states that arrive."""

from orderless.arriving import arriving_at
from orderless.orders import prefixes_of
from orderless.running import run_states
from orderless.states import starts_of, state_number
from tests.samples import (
    CELLS, CHAIN, FREE, MIXED, NINE, NOTHING, PAIRED, PROG, TABLES, Case, some_programs)
from tests.slowly import Slowly


class ArrivingTest(Case):
    def test_the_examples(self):
        self.same([arriving_at(PROG, ("add",)), arriving_at(PROG, ("see", "twice"))], [(1, 2, 3), (0, 2, 7)])

    def test_by_name(self):
        self.same(arriving_at(program=PROG, prefix=("add",)), (1, 2, 3))

    def test_each_prefix(self):
        right = {
            (): (0, 1, 2, 3), ("add",): (1, 2, 3), ("add", "see"): (1, 2, 3, 7), ("add", "see", "twice"): (1, 2, 3, 7),
            ("add", "twice"): (1, 2, 3), ("see",): (0, 1, 2, 7), ("see", "twice"): (0, 2, 7), ("twice",): (0, 2, 3)}
        self.same({prefix: arriving_at(PROG, prefix) for prefix in prefixes_of(PROG)}, right)

    def test_a_chain(self):
        self.same([arriving_at(CHAIN, prefix) for prefix in ((), ("add",), ("add", "twice"), ("add", "see", "twice"))],
                  [(0, 1, 2, 3), (1, 2, 3), (2, 3), (2, 7)])

    def test_no_start(self):
        program = PROG[:3] + (0,)
        for prefix in prefixes_of(program):
            self.same(arriving_at(program, prefix), ())

    def test_starts_matter(self):
        program = PAIRED[:3] + (("=", "x", 2),)
        self.same([arriving_at(program, prefix) for prefix in ((), ("add",), ("twice",), ("add", "see", "twice"))],
                  [(2,), (3,), (2,), (7,)])

    def test_no_rules(self):
        self.same(arriving_at(NOTHING, ()), (0,))
        self.same(arriving_at((NINE, (), (), ("<", 6, "x")), ()), (7, 8))
        program = (MIXED, (), (), ("=", "a", -1))
        self.same(arriving_at(program, ()), tuple(state_number(program, state) for state in starts_of(program)))

    def test_no_cell_shown_or_many_rules(self):
        hidden = (tuple(row[:5] + (False,) + row[6:] for row in CELLS),) + PROG[1:]
        self.same(arriving_at(hidden, ("see", "twice")), (0, 2, 7))
        self.same(arriving_at(FREE, ()), tuple(range(9)))
        self.same(len(arriving_at(FREE, tuple("abcdef"))) > 0, True)

    def test_by_the_definition(self):
        for program in [PROG, PAIRED, CHAIN, TABLES] + some_programs(41, 60):
            slowly = Slowly(program)
            for prefix in prefixes_of(program):
                self.same(arriving_at(program, prefix), tuple(slowly.arriving(prefix)))

    def test_the_states_behind_rules(self):
        for program in some_programs(42, 20):
            for prefix in prefixes_of(program)[1:]:
                shorter = [(name, tuple(one for one in prefix if one != name)) for name in prefix]
                states = Slowly(program).states
                behind = {state_number(program, run_states(program, states[number], name)[-1])
                          for name, rest in shorter if rest in prefixes_of(program) for number in arriving_at(program, rest)}
                self.same(arriving_at(program, prefix), tuple(sorted(behind)))
