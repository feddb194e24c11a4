"""[39]: states that are alike, and orders that tell them apart."""

from orderless.alike import alike_at, telling_order
from orderless.orders import prefixes_of
from orderless.running import run_states, shown_in
from orderless.states import all_states, state_number
from tests.samples import CELLS, CHAIN, FREE, NINE, NOTHING, PAIRED, PROG, TABLES, Case, some_programs
from tests.slowly import Slowly

HIDDEN = (tuple(row[:5] + (False,) + row[6:] for row in CELLS),) + PROG[1:]


class AlikeTest(Case):
    def tells(self, program, prefix, one, other):
        """Whether an order is returned; it is looked at by running it."""
        order = telling_order(program, prefix, one, other)
        if order is None:
            return False
        rest = [rule[0] for rule in program[1] if rule[0] not in prefix]
        self.same([type(order), sorted(order)], [tuple, rest])
        self.assertTrue(all(order.index(first) < order.index(second) for first, second in program[2]
                            if first in rest and second in rest))
        ends = [shown_in(program, run_states(program, state, *order)[-1]) for state in (one, other)]
        self.assertNotEqual(ends[0], ends[1])
        return True

    def test_the_examples(self):
        self.same(alike_at(PROG, ("add", "twice")), (0, 0, 0, 3, 3, 3, 3, 3))
        self.same(alike_at(PROG, ()), (0, 1, 2, 3, 3, 3, 3, 3))
        self.assertTrue(self.tells(PROG, ("twice",), (0, 1), (0, 2)))
        self.same(telling_order(PROG, ("twice",), (0, 1), (0, 2)), ("add", "see"))
        self.same(telling_order(PROG, ("add",), (0, 1), (0, 2)), None)

    def test_by_name(self):
        self.same(alike_at(program=PROG, prefix=()), (0, 1, 2, 3, 3, 3, 3, 3))
        self.same(telling_order(program=PROG, prefix=("twice",), one=(0, 2), other=(0, 1)), ("add", "see"))

    def test_the_prefix_of_all_rules(self):
        for program in (PROG, PAIRED, CHAIN):
            self.same(alike_at(program, ("add", "see", "twice")), (0, 0, 0, 0, 4, 4, 4, 4))
            self.same(telling_order(program, ("add", "see", "twice"), (0, 1), (1, 1)), ())
            self.same(telling_order(program, ("add", "see", "twice"), (0, 1), (0, 2)), None)

    def test_starts_do_not_matter(self):
        for starts in (0, ("=", "x", 1)):
            program = PROG[:3] + (starts,)
            self.same(alike_at(program, ()), alike_at(PROG, ()))
            self.same(telling_order(program, ("twice",), (0, 1), (0, 2)), ("add", "see"))

    def test_no_rules(self):
        self.same([alike_at(NOTHING, ()), telling_order(NOTHING, (), (), ())], [(0,), None])
        self.same([alike_at((NINE, (), (), 1), ()), telling_order((NINE, (), (), 1), (), (3,), (4,))], [tuple(range(9)), ()])
        self.same(alike_at((CELLS, (), (), 1), ()), (0, 0, 0, 0, 4, 4, 4, 4))

    def test_no_shown_cell(self):
        for prefix in prefixes_of(HIDDEN):
            self.same(alike_at(HIDDEN, prefix), (0,) * 8)
            self.same(telling_order(HIDDEN, prefix, (0, 0), (1, 3)), None)

    def test_pairs_matter(self):
        self.same(alike_at(CHAIN, ()), (0, 0, 2, 2, 2, 2, 2, 2))
        self.same(telling_order(CHAIN, (), (0, 0), (0, 1)), None)
        self.same(telling_order(CHAIN, (), (0, 1), (0, 2)), ("add", "twice", "see"))
        self.same(telling_order(CHAIN, ("add",), (0, 2), (0, 3)), ("twice", "see"))

    def test_six_rules(self):
        self.same(alike_at(FREE, tuple("abcdef")), tuple(range(9)))
        self.same(alike_at(FREE, tuple("abdef")), (0, 1, 2, 0, 1, 2, 0, 1, 2))
        self.same(alike_at(FREE, tuple("adef")), (0,) * 9)

    def test_a_state_with_itself(self):
        for program in (PROG, TABLES):
            for prefix in prefixes_of(program):
                for state in all_states(program):
                    self.same(telling_order(program, prefix, state, state), None)

    def test_by_the_definition(self):
        told = {True: 0, False: 0}
        for program in [PROG, PAIRED, CHAIN] + some_programs(51, 25):
            slowly = Slowly(program)
            for prefix in prefixes_of(program):
                classes = alike_at(program, prefix)
                self.same((type(classes), len(classes)), (tuple, len(slowly.states)))
                for number, state in enumerate(slowly.states):
                    first = [other for other in slowly.states if slowly.alike(prefix, state, other)][0]
                    self.same(classes[number], state_number(program, first))
                for one, other in zip(slowly.states, slowly.states[1:] + slowly.states[:1]):
                    apart = self.tells(program, prefix, one, other)
                    self.same(apart, not slowly.alike(prefix, one, other))
                    told[apart] += 1
        self.assertTrue(min(told.values()) > 200)
