"""[53], [55] and the section interleaving."""

from itertools import product

from orderless.coding import code_of
from orderless.interleaving import interleaved, schedules_of
from orderless.machines import run_alone
from orderless.states import all_states
from tests.samples import CELLS, CODE, PROG, SMALL, TABLE, Case, chance_of, some_code, some_programs
from tests.slowcode import slowly_interleaved

FAULTS = (("const", 0, 3), ("store", "x", 0), ("do", "div", 0, 0, 31), ("store", "x", 1))
STORES = (("const", 0, 1), ("store", "x", 0), ("const", 0, 2), ("store", "x", 0), ("load", 1, "big"))
QUIET = (("const", 0, 1), ("do", "+", 0, 0, 0), ("end",))
AT_ONCE = (("do", "mod", 0, 0, 0),)
CODES = (CODE, FAULTS, STORES, QUIET, AT_ONCE, (), (("load", 0, "x"), ("store", "big", 0)), (("load", 0, "big"), ("end",)))


def is_full(cells, state, codes, schedule):
    _, done, rest = slowly_interleaved(cells, state, codes, schedule)
    return all(done) and rest == []


def slow_schedules(cells, state, codes, most):
    """All full schedules with at most so many steps, by a trial of all schedules."""
    found = [schedule for many in range(most + 1) for schedule in product(range(len(codes)), repeat=many)
             if is_full(cells, state, codes, schedule)]
    return sorted(found)


class InterleavedTest(Case):
    def run_together(self, codes, schedule, state=(0, 0), cells=CELLS):
        before = repr((cells, state, codes, schedule))
        found = interleaved(cells, state, codes, schedule)
        self.assertEqual(repr((cells, state, codes, schedule)), before)
        self.same(found, slowly_interleaved(cells, state, codes, schedule)[0])
        return found

    def test_the_examples(self):
        self.same([self.run_together((CODE, CODE), (0, 0, 1, 1)), self.run_together((CODE, CODE), (0, 1, 0, 1))], [(0, 2), (0, 1)])

    def test_by_name(self):
        self.same(interleaved(schedule=(0, 1, 0, 1), codes=(CODE, CODE), state=(0, 0), cells=CELLS), (0, 1))

    def test_no_codes(self):
        self.same(self.run_together((), (), (1, 2)), (1, 2))
        self.same(interleaved((), (), (), ()), ())

    def test_without_a_schedule_one_after_the_other(self):
        self.same(self.run_together((CODE, CODE, CODE), ()), (0, 3))
        self.same(self.run_together((STORES, CODE), ()), (0, 3))
        self.same(self.run_together((CODE, STORES), ()), (0, 2))

    def test_the_rest_of_the_codes_in_order(self):
        # Both have loaded 0; the rest of code 0 comes first, whichever loaded first.
        three = (("load", 0, "x"), ("const", 1, 3), ("store", "x", 1))
        for schedule in ((0, 1), (1, 0)):
            self.same(self.run_together((CODE, three), schedule), (0, 3))
            self.same(self.run_together((three, CODE), schedule), (0, 1))

    def test_steps_of_code_that_has_ended(self):
        for schedule in ((0, 0, 0, 0, 0, 1, 1), (0, 0, 0, 1, 0, 1, 0), (0,) * 9):
            self.same(self.run_together((CODE, CODE), schedule), (0, 2))
        self.same(self.run_together((QUIET, CODE), (0, 0, 1, 0, 1, 1)), (0, 1))
        self.same(self.run_together(((), CODE), (0, 0, 0)), (0, 1))

    def test_a_step_to_the_end(self):
        """The third step of code 0 only ends; it does not count as one of code 1."""
        self.same(self.run_together((CODE, CODE), (0, 0, 0, 1)), (0, 2))
        self.same(self.run_together((CODE, CODE), (0, 1, 1, 1, 0)), (0, 1))

    def test_faults(self):
        for state in all_states(PROG):
            for schedule in ((), (0, 0, 0, 1), (1, 0, 0, 0, 1), (0, 1, 0, 1), (0, 0, 0, 0, 1, 1)):
                self.run_together((FAULTS, CODE), schedule, state)
        # What was stored stays, and the other code goes on.
        self.same(self.run_together((FAULTS, CODE), ()), (0, 3))
        self.same(self.run_together((FAULTS, CODE), (1, 0, 0, 1)), (0, 1))
        self.same(self.run_together((AT_ONCE, CODE), (0, 0)), (0, 1))

    def test_slots_of_its_own(self):
        keep = (("const", 0, 3), ("load", 1, "big"), ("store", "x", 0))
        self.same(self.run_together((keep, (("const", 0, 1), ("load", 1, "big"), ("store", "big", 0))), (0, 1, 0, 1)), (1, 3))

    def test_the_same_code_alone_and_several_times(self):
        for state in all_states(PROG):
            for code in CODES:
                if code not in (FAULTS, AT_ONCE):
                    self.same(self.run_together((code,), (), state), run_alone(CELLS, code, state)[0])
            for schedule in product((0, 1, 2), repeat=4):
                self.run_together((CODE, CODE, CODE), schedule, state)

    def test_any_codes(self):
        chance = chance_of(27)
        for _ in range(300):
            cells = chance.choice((CELLS, SMALL, TABLE))
            codes = tuple(some_code(chance, cells, chance.randint(0, 9)) for _ in range(chance.randint(0, 3)))
            schedule = tuple(chance.randrange(len(codes)) for _ in range(chance.randint(0, 9))) if codes else ()
            state = chance.choice(list(all_states((cells, (), (), 1))))
            self.run_together(codes, schedule, state, cells)


class SchedulesTest(Case):
    def full(self, codes, state=(0, 0), cells=CELLS, most=6):
        before = repr((cells, state, codes))
        found = list(schedules_of(cells, state, codes))
        self.assertEqual(repr((cells, state, codes)), before)
        self.same(found, slow_schedules(cells, state, codes, most))
        return found

    def test_the_example(self):
        self.same(list(schedules_of(CELLS, (0, 3), (CODE, CODE))), [(0, 1), (1, 0)])
        self.same(list(schedules_of(codes=(CODE, CODE), state=(0, 3), cells=CELLS)), [(0, 1), (1, 0)])

    def test_no_codes_and_codes_without_events(self):
        for codes in ((), ((),), (QUIET,), (AT_ONCE, QUIET, ())):
            self.same(list(schedules_of(CELLS, (0, 0), codes)), [()])
        self.same(list(schedules_of((), (), ())), [()])

    def test_one_code(self):
        for code, schedule in ((CODE, (0, 0)), (FAULTS, (0,)), (STORES, (0, 0, 0))):
            self.same(self.full((code,)), [schedule])
        self.same(self.full((CODE,), (0, 3)), [(0,)])

    def test_two_codes(self):
        self.same(self.full((CODE, CODE)), [(0, 0, 1, 1), (0, 1, 0, 1), (0, 1, 1, 0), (1, 0, 0, 1), (1, 0, 1, 0), (1, 1, 0, 0)])
        # From x = 2 the code that is done behind the other one stores nothing.
        self.same(self.full((CODE, CODE), (0, 2)), [(0, 0, 1), (0, 1, 0, 1), (0, 1, 1, 0), (1, 0, 0, 1), (1, 0, 1, 0), (1, 1, 0)])

    def test_any_two_codes(self):
        for codes in product(CODES, repeat=2):
            for state in ((0, 0), (1, 2), (0, 3)):
                self.full(codes, state)

    def test_three_codes(self):
        for codes in ((CODE, CODE, CODE), (CODE, QUIET, FAULTS), (AT_ONCE, CODE, STORES)):
            for state in ((0, 1), (0, 2)):
                self.full(codes, state)

    def test_good_codes(self):
        for program in some_programs(28, 12):
            codes = tuple(code_of(program, rule[0]) for rule in program[1])[:2]
            for state in list(all_states(program))[:4]:
                found = list(schedules_of(program[0], state, codes))
                self.assertEqual(found, sorted(set(found)))
                self.assertTrue(all(is_full(program[0], state, codes, schedule) for schedule in found))

    def test_they_come_one_by_one(self):
        many = (("load", 0, "x"),) * 40
        schedules = schedules_of(CELLS, (0, 0), (many,) * 5)
        self.same([next(schedules)[-41:-39], next(schedules)[-2:]], [(3, 4), (4, 4)])
