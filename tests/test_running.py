"""[6], [9], [10], [35], [36]: running rules, results, outcomes."""

from itertools import permutations

from orderless.errors import UnknownRule
from orderless.orders import legal_orders, pairs_closed, unordered_pairs
from orderless.pairings import commute
from orderless.running import is_settled, outcomes_of, outcomes_with, result_of, run_states, shown_in
from orderless.states import all_states, starts_of
from tests.samples import (
    ADD, CELLS, CHAIN, FREE, MIXED, NINE, NOTHING, PAIRED, PROG, SEE, TABLES, TWICE, Case, free_rules, some_programs)
from tests.slowly import Slowly, with_pairs

NO_START = (CELLS, PROG[1], (), 0)
HIDDEN = tuple(row[:5] + (False,) + row[6:] for row in CELLS)
NOT_SHOWN = (HIDDEN, PROG[1], (), 1)


class RunningTest(Case):
    def test_the_examples(self):
        self.same(run_states(PROG, (0, 1), "twice", "add", "see"), ((0, 1), (0, 2), (0, 3), (1, 3)))
        found = [outcomes_of(PROG, (0, 0)), outcomes_of(PROG, (0, 1)), is_settled(PROG)]
        self.same(found, [((0,),), ((0,), (1,)), False])
        self.same(outcomes_with(PROG, (0, 2)), (((0,), ("see", "add", "twice")), ((1,), ("add", "see", "twice"))))

    def test_by_name(self):
        self.same(run_states(program=PROG, state=(0, 1)), ((0, 1),))
        self.same(shown_in(program=PROG, state=(1, 2)), (1,))
        self.same(result_of(program=PROG, start=(0, 2), order=("add", "see", "twice")), (1,))
        self.same(outcomes_of(program=PROG, start=(0, 2)), ((0,), (1,)))
        self.same(len(outcomes_with(program=PROG, start=(0, 2))), 2)
        self.same(is_settled(program=PROG), False)

    def test_run_states(self):
        self.same(run_states(PROG, (1, 2)), ((1, 2),))
        self.same(run_states(PROG, (0, 0), "add", "add", "add", "add"), ((0, 0), (0, 1), (0, 2), (0, 3), (0, 3)))
        self.same(run_states(PROG, (0, 3), "see", "see", "twice"), ((0, 3), (1, 3), (1, 3), (1, 3)))
        self.same(run_states(CHAIN, (0, 2), "see", "add", "see"), ((0, 2), (0, 2), (0, 3), (1, 3)))
        self.same(run_states(TABLES, (0, 4, 5), "move", "same", "move"), ((0, 4, 5), (0, 5, 5), (0, 5, 5), (0, 5, 5)))
        self.same(run_states(NOTHING, ()), ((),))

    def test_unknown_rules(self):
        self.refuses(UnknownRule, {"name": "up"}, run_states, PROG, (0, 0), "up")
        self.refuses(UnknownRule, {"name": "up"}, run_states, PROG, (0, 0), "add", "up", "down", "see")
        self.refuses(UnknownRule, {"name": ""}, run_states, PROG, (0, 0), "add", "see", "twice", "")
        self.refuses(UnknownRule, {"name": "add"}, run_states, NOTHING, (), "add")

    def test_shown_in(self):
        self.same([shown_in(PROG, (1, 3)), shown_in(NOT_SHOWN, (1, 3)), shown_in(NOTHING, ())], [(1,), (), ()])
        self.same(shown_in((MIXED, (), (), 1), (-2, 3, 4, 0, 1)), (3, 4, 1))
        self.same(shown_in(TABLES, (0, 4, 5)), (4, 5))

    def test_result_of(self):
        for x in range(4):
            for order in permutations(("add", "see", "twice")):
                self.same(result_of(PROG, (0, x), order), Slowly(PROG).result((0, x), order))
                self.same(result_of(NOT_SHOWN, (0, x), order), ())
        self.same(result_of(NOTHING, (), ()), ())
        self.same(result_of((CELLS, (), (), 1), (0, 2), ()), (0,))

    def test_no_rules(self):
        program = (NINE, (), (), ("<", "x", 5))
        self.same([outcomes_of(program, (4,)), outcomes_with(program, (4,)), is_settled(program)],
                  [((4,),), (((4,), ()),), True])
        self.same([outcomes_of(NOTHING, ()), outcomes_with(NOTHING, ()), is_settled(NOTHING)], [((),), (((), ()),), True])

    def test_no_cell_shown(self):
        for start in starts_of(NOT_SHOWN):
            self.same(outcomes_with(NOT_SHOWN, start), (((), ("add", "see", "twice")),))
            self.same(outcomes_of(NOT_SHOWN, start), ((),))
        self.same(is_settled(NOT_SHOWN), True)

    def test_no_start(self):
        self.same(is_settled(NO_START), True)

    def test_starts_matter(self):
        settled = [is_settled((CELLS, PROG[1], (), ("=", "x", x))) for x in range(4)]
        self.same(settled, [True, False, False, True])
        self.same(is_settled((CELLS, PROG[1], (), ("or", ("=", "x", 0), ("=", "x", 3)))), True)

    def test_pairs_matter(self):
        self.same([is_settled(PAIRED), is_settled(CHAIN)], [False, True])
        self.same(is_settled((CELLS, PROG[1], (("see", "add"),), 1)), True)
        self.same(outcomes_with(CHAIN, (0, 1)), (((0,), ("add", "twice", "see")),))

    def test_the_least_order_with_a_result(self):
        rules = (("a", 1, (("x", 1),)), ("b", 1, (("x", 2),)), ("c", 1, (("x", 1),)))
        program = (NINE, rules, (), 1)
        self.same(outcomes_with(program, (0,)), (((1,), ("a", "b", "c")), ((2,), ("a", "c", "b"))))
        self.same(outcomes_with(program[:2] + ((("b", "a"),), 1), (0,)), (((1,), ("b", "a", "c")),))
        self.same(outcomes_with(program[:2] + ((("c", "a"),), 1), (0,)), (((1,), ("b", "c", "a")), ((2,), ("c", "a", "b"))))

    def test_five_rules_with_many_orders(self):
        program = (NINE, free_rules(5), (), 1)
        found = Slowly(program).results((1,))
        self.same(outcomes_with(program, (1,)), tuple(sorted(found.items())))
        self.assertTrue(len(found) > 2)

    def test_six_rules_with_many_orders(self):
        found = outcomes_with(FREE, (0,))
        self.same([result_of(FREE, (0,), order) for _, order in found], [outcome for outcome, _ in found])
        self.same(is_settled(FREE), False)

    def test_by_the_definitions(self):
        settled = {True: 0, False: 0}
        for program in [PROG, PAIRED, CHAIN, TABLES, NO_START, NOT_SHOWN, NOTHING] + some_programs(31, 120):
            slowly = Slowly(program)
            for start in slowly.starts:
                found = slowly.results(start)
                self.same(outcomes_with(program, start), tuple(sorted(found.items())))
                self.same(outcomes_of(program, start), tuple(sorted(found)))
                for order in legal_orders(program):
                    self.same(result_of(program, start, order), slowly.result(start, order))
            settled[slowly.settled()] += 1
            self.same(is_settled(program), slowly.settled())
        self.assertTrue(min(settled.values()) > 20)

    def test_neighbours_that_commute(self):
        for program in some_programs(32, 40):
            if all(commute(program, one, other) for one, other in unordered_pairs(program)):
                self.same(is_settled(program), True)
                for state in all_states(program):
                    ends = {run_states(program, state, *order)[-1] for order in legal_orders(program)}
                    self.assertEqual(len(ends), 1)

    def test_further_pairs_add_no_outcome(self):
        for program in [PROG] + some_programs(33, 30):
            closed = program[:2] + (pairs_closed(program), program[3])
            for start in starts_of(program):
                self.same(outcomes_with(closed, start), outcomes_with(program, start))
                for pair in unordered_pairs(program):
                    self.assertTrue(set(outcomes_of(with_pairs(program, pair), start)) <= set(outcomes_of(program, start)))
            self.same(is_settled(closed), is_settled(program))

    def test_rules_that_rest(self):
        never = ("never", 0, (("big", 1),))
        program = (CELLS, (ADD, never, SEE, TWICE), (), 1)
        for start in starts_of(program):
            self.same(outcomes_of(program, start), outcomes_of(PROG, start))
        self.same(run_states(program, (0, 1), "never", "add", "never"), ((0, 1), (0, 1), (0, 2), (0, 2)))
