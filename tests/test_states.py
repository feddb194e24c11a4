"""[3], [6], [24], [25] and the section states."""

from itertools import product

from orderless.cells import cell_ranges
from orderless.errors import InvalidInput, UnknownCell
from orderless.states import (
    all_states, count_states, is_start, start_list, start_of, starts_of, state_at, state_list, state_number)
from tests.samples import CELLS, MIXED, ODD_VALUES, PROG, TABLE, Case

EMPTY = ((), (), (), 1)
NEVER = (CELLS, (), (), 0)
TABLES = (TABLE, (), (), ("<", "i", 2))
MIXED_PROG = (MIXED, (), (), ("or", ("<", "a", 0), ("=", ("at", "b", 0), ("at", "b", 1))))
PROGRAMS = (PROG, EMPTY, NEVER, TABLES, MIXED_PROG)


class ExamplesTest(Case):
    def test_as_printed(self):
        self.same([state_number(PROG, (1, 2)), state_at(PROG, 6), list(starts_of(PROG))],
                  [6, (1, 2), [(0, 0), (0, 1), (0, 2), (0, 3)]])
        found = [start_of(PROG, x=2), start_of(PROG), start_of(((("t", 2, 0, 1, True, True, 0),), (), (), 1), t=(0, 1))]
        self.same(found, [(0, 2), (0, 0), (0, 1)])
        self.refuses(InvalidInput, {"value": 4}, start_of, PROG, x=4)


class NumbersTest(Case):
    def test_counting(self):
        self.same([count_states(program) for program in PROGRAMS], [8, 1, 8, 144, 96])
        self.same(count_states(program=PROG), 8)

    def test_all_states_ascending(self):
        for program in PROGRAMS:
            states = list(product(*[range(low, high + 1) for low, high in cell_ranges(program[0])]))
            self.assertEqual(states, sorted(states))
            self.same(list(all_states(program)), states)
        self.same(list(all_states(program=EMPTY)), [()])

    def test_there_and_back(self):
        for program in PROGRAMS:
            for number, state in enumerate(all_states(program)):
                self.same([state_number(program, state), state_at(program, number)], [number, state])
        self.same([state_number(program=PROG, state=(0, 3)), state_at(program=PROG, number=4)], [3, (1, 0)])
        self.same([state_number(EMPTY, ()), state_at(EMPTY, 0)], [0, ()])

    def test_generators(self):
        for made in (all_states, starts_of):
            walk = made(PROG)
            self.assertIs(iter(walk), walk)
            self.same(next(walk), (0, 0))
        pairs = [(one, other) for one in all_states(PROG) for other in all_states(PROG)]
        self.assertEqual(pairs, list(product(product(range(2), range(4)), repeat=2)))
        pairs = [(one, other) for one in starts_of(PROG) for other in starts_of(PROG)]
        self.assertEqual(len(set(pairs)), 16)
        one, other = all_states(PROG), all_states(PROG)
        self.same([next(one), next(one), next(other), next(one)], [(0, 0), (0, 1), (0, 0), (0, 2)])


    def test_lists(self):
        for program in PROGRAMS:
            for listed, made in ((state_list, all_states), (start_list, starts_of)):
                right = list(made(program))
                self.same(listed(program), right)
                listed(program).append(None)
                self.same([listed(program), list(made(program))], [right, right])


class StartsTest(Case):
    def test_starts(self):
        self.same(list(starts_of(EMPTY)), [()])
        self.same(list(starts_of(NEVER)), [])
        self.same(list(starts_of(program=TABLES)), [(0, 1, 1), (1, 1, 1)])
        right = [(a, b, c, 0, 1) for a in (-2, -1, 0, 1) for b in (3, 4) for c in (3, 4) if a < 0 or b == c]
        self.same(list(starts_of(MIXED_PROG)), right)
        # What starts is matters only as true or false.
        self.same(list(starts_of((CELLS, (), (), ("-", "x", 2)))), [(0, 0), (0, 1), (0, 3)])

    def test_is_start(self):
        for program in PROGRAMS:
            starts = list(starts_of(program))
            for state in all_states(program):
                self.assertIs(is_start(program, state), state in starts)
        self.assertIs(is_start(program=PROG, thing=(0, 2)), True)

    def test_values_that_are_no_states(self):
        for thing in ODD_VALUES + ([0, 2], (0, 4), (0, -1), (-1, 0), (2, 0), (0,), (0, 1, 0), (False, 2), (0, True), (0, None),
                                   (0, "1"), ("0", 0), (0, (1,)), ((0, 1),), 2, 0, "x"):
            self.assertIs(is_start(PROG, thing), False, thing)
        self.assertIs(is_start(EMPTY, ()), True)
        self.assertIs(is_start(EMPTY, []), False)
        self.assertIs(is_start(((), (), (), 0), ()), False)
        # Not low where an input may stand, and not first where another cell stands.
        self.assertIs(is_start(TABLES, (1, 1, 1)), True)
        self.assertIs(is_start(TABLES, (1, 0, 1)), False)
        self.assertIs(is_start(TABLES, (1, 1, 0)), False)
        self.assertIs(is_start(TABLES, (2, 1, 1)), False)


class StartOfTest(Case):
    def test_no_some_and_all_inputs(self):
        self.same(start_of(MIXED_PROG), (-2, 3, 3, 0, 1))
        self.same(start_of(MIXED_PROG, a=-1), (-1, 3, 3, 0, 1))
        self.same(start_of(MIXED_PROG, b=(3, 4)), (-2, 3, 4, 0, 1))
        self.same(start_of(MIXED_PROG, b=(4, 4), a=1), (1, 4, 4, 0, 1))
        self.same(start_of(program=PROG, x=3), (0, 3))
        self.same(start_of(EMPTY), ())
        self.same(start_of(TABLES, i=1), (1, 1, 1))

    def test_wrong_names(self):
        for name in ("c", "d", "e", "A", "ab", "b0"):
            self.refuses(UnknownCell, {"name": name}, start_of, MIXED_PROG, **{name: 0})
        self.refuses(UnknownCell, {"name": "c"}, start_of, MIXED_PROG, z=1, d=1, c=1, a=0)
        self.refuses(UnknownCell, {"name": "big"}, start_of, PROG, big=0)
        self.refuses(UnknownCell, {"name": "x"}, start_of, EMPTY, x=0)

    def test_wrong_values(self):
        for value in (-3, 2, True, False, None, "0", (0,), [0], ()):
            self.refuses(InvalidInput, {"value": value}, start_of, MIXED_PROG, a=value)
        for value in (3, (3,), (3, 3, 3), [3, 3], (2, 3), (3, 5), (3, True), (3, None), ((3, 3),), (), None, "34"):
            self.refuses(InvalidInput, {"value": value}, start_of, MIXED_PROG, b=value)

    def test_the_order_of_errors(self):
        self.refuses(UnknownCell, {"name": "z"}, start_of, MIXED_PROG, a=99, b=None, z=0)
        self.refuses(InvalidInput, {"value": 99}, start_of, MIXED_PROG, b=None, a=99)
        self.refuses(InvalidInput, {"value": None}, start_of, MIXED_PROG, b=None, a=0)
        # starts would be false, but a value that does not fit comes first.
        self.refuses(InvalidInput, {"value": [3, 4]}, start_of, MIXED_PROG, b=[3, 4], a=0)

    def test_starts_that_are_false(self):
        self.refuses(InvalidInput, {"value": (0, 3, 4, 0, 1)}, start_of, MIXED_PROG, a=0, b=(3, 4))
        self.refuses(InvalidInput, {"value": (2, 1, 1)}, start_of, TABLES, i=2)
        self.refuses(InvalidInput, {"value": (0, 0)}, start_of, NEVER)
        self.refuses(InvalidInput, {"value": ()}, start_of, ((), (), (), 0))

    def test_the_error_keeps_the_very_value(self):
        value = [3, 4]
        with self.assertRaises(InvalidInput) as caught:
            start_of(MIXED_PROG, b=value)
        self.assertIs(caught.exception.value, value)
        self.assertEqual(value, [3, 4])

    def test_all_starts_can_be_made(self):
        for program in (PROG, TABLES, MIXED_PROG):
            for start in starts_of(program):
                inputs = {}
                begin = 0
                for name, size, _, _, is_input, _, _ in program[0]:
                    many = size or 1
                    if is_input:
                        inputs[name] = start[begin:begin + many] if size else start[begin]
                    begin += many
                self.same(start_of(program, **inputs), start)
