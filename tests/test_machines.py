"""[52], [53] and run_alone."""

from orderless.machines import run_alone
from tests.samples import CELLS, CODE, LONG, MIXED, OPERATORS, SMALL, TABLE, Case, chance_of, some_code
from tests.slowcode import ARITHMETIC, slowly_alone
from orderless.states import all_states

NO_CELLS = ()


class RunAloneTest(Case):
    def run_on_table(self, *code, state=(1, 4, 5)):
        before = repr((code, state))
        found = run_alone(TABLE, code, state)
        self.assertEqual(repr((code, state)), before)
        self.same(found, slowly_alone(TABLE, code, state))
        return found

    def test_the_examples(self):
        self.same(run_alone(CELLS, CODE, (0, 2)), ((0, 3), (("load", 1, 2), ("store", 1, 3))))
        self.same(run_alone(CELLS, CODE, (0, 3)), ((0, 3), (("load", 1, 3),)))

    def test_by_name(self):
        self.same(run_alone(state=(0, 2), code=CODE, cells=CELLS), ((0, 3), (("load", 1, 2), ("store", 1, 3))))

    def test_without_instructions(self):
        self.same(self.run_on_table(), ((1, 4, 5), ()))
        self.same(run_alone((), (), ()), ((), ()))
        self.same(run_alone((), (("const", 0, 1), ("end",)), ()), ((), ()))

    def test_const_and_slots_that_begin_with_0(self):
        for r in (0, 1, 30, 31):
            self.same(self.run_on_table(("store", "i", r)), ((0, 4, 5), (("store", 0, 0),)))
            self.same(self.run_on_table(("const", r, 2), ("store", "i", r)), ((2, 4, 5), (("store", 0, 2),)))
            self.same(self.run_on_table(("const", r, 2), ("const", r, 3), ("store", "i", r))[0], (3, 4, 5))
            self.same(self.run_on_table(("const", 31 - r, 2), ("store", "i", r))[0], (0, 4, 5))

    def test_each_operator(self):
        for op in OPERATORS:
            for one in (-7, -1, 0, 1, 2, 7):
                for other in (-3, -1, 0, 1, 2, 7):
                    code = (("const", 0, one), ("const", 1, other), ("do", op, 2, 0, 1), ("store", "i", 2), ("store", ("t", 0), 0))
                    found = self.run_on_table(*code)
                    if op in ("div", "mod") and other < 1:
                        self.same(found, (None, ()))
                    else:
                        value = ARITHMETIC[op](one, other)
                        self.same(found, ((value, one, 5), (("store", 0, value), ("store", 1, one))))

    def test_rounding_down(self):
        for op, one, other, value in (("div", -7, 2, -4), ("mod", -7, 2, 1), ("div", 7, 2, 3), ("mod", 7, 2, 1), ("mod", -6, 3, 0),
                                      ("div", -1, 5, -1), ("=", 2, 2, 1), ("<", 2, 2, 0), ("<=", 2, 2, 1), ("-", 2, 5, -3)):
            code = (("const", 0, one), ("const", 1, other), ("do", op, 0, 0, 1), ("store", "i", 0))
            self.same(self.run_on_table(*code)[0][0], value)

    def test_a_slot_twice_in_one_instruction(self):
        self.same(self.run_on_table(("const", 0, 3), ("do", "*", 0, 0, 0), ("store", "i", 0))[0][0], 9)
        self.same(self.run_on_table(("const", 0, 1), ("do", "div", 0, 0, 0), ("store", "i", 0))[0][0], 1)
        self.same(self.run_on_table(("do", "mod", 5, 5, 5), ("store", "i", 0)), (None, ()))

    def test_loads_and_stores(self):
        self.same(self.run_on_table(("load", 0, "i"), ("store", ("t", 1), 0)), ((1, 4, 1), (("load", 0, 1), ("store", 2, 1))))
        self.same(self.run_on_table(("load", 7, ("t", 0)), ("store", "i", 7)), ((4, 4, 5), (("load", 1, 4), ("store", 0, 4))))
        self.same(self.run_on_table(("load", 0, "i"), ("loadat", 1, "t", 0), ("store", "i", 1)),
                  ((5, 4, 5), (("load", 0, 1), ("load", 2, 5), ("store", 0, 5))))
        self.same(self.run_on_table(("load", 0, "i"), ("const", 1, 3), ("storeat", "t", 0, 1)),
                  ((1, 4, 3), (("load", 0, 1), ("store", 2, 3))))
        self.same(self.run_on_table(("loadat", 0, "t", 0), ("storeat", "t", 1, 1)), ((1, 0, 5), (("load", 1, 4), ("store", 1, 0))))

    def test_loads_see_what_was_stored(self):
        self.same(self.run_on_table(("const", 0, 9), ("store", "i", 0), ("load", 1, "i"), ("store", ("t", 0), 1), ("load", 2, "i")),
                  ((9, 9, 5), (("store", 0, 9), ("load", 0, 9), ("store", 1, 9), ("load", 0, 9))))

    def test_keys_without_a_cell(self):
        for key in (2, 3, -1, -2, LONG, -LONG):
            for touching in (("loadat", 0, "t", 1), ("storeat", "t", 1, 0)):
                self.same(self.run_on_table(("const", 1, key), touching, ("store", "i", 0)), (None, ()))
        for key in (0, 1):
            self.same(self.run_on_table(("const", 1, key), ("loadat", 0, "t", 1))[1], (("load", 1 + key, 4 + key),))

    def test_jumps(self):
        store = ("store", "i", 0)
        self.same(self.run_on_table(("jump", 2), store, ("store", ("t", 0), 0))[1], (("store", 1, 0),))
        self.same(self.run_on_table(("jump", 2), store), ((1, 4, 5), ()))
        self.same(self.run_on_table(("jump", 1), store)[1], (("store", 0, 0),))
        self.same(self.run_on_table(("unless", 0, 2), store), ((1, 4, 5), ()))
        for value in (1, -1, LONG):
            self.same(self.run_on_table(("const", 0, value), ("unless", 0, 3), store)[1], (("store", 0, value),))
        self.same(self.run_on_table(("jump", 1)), ((1, 4, 5), ()))
        self.same(self.run_on_table(("unless", 3, 1)), ((1, 4, 5), ()))

    def test_the_end(self):
        self.same(self.run_on_table(("end",), ("store", "i", 0)), ((1, 4, 5), ()))
        self.same(self.run_on_table(("store", "i", 0), ("end",), ("do", "div", 0, 0, 0)), ((0, 4, 5), (("store", 0, 0),)))
        self.same(self.run_on_table(("jump", 2), ("do", "div", 0, 0, 0), ("end",)), ((1, 4, 5), ()))

    def test_stores_of_any_integer(self):
        for value in (-1, 4, 6, LONG, -LONG):
            self.same(self.run_on_table(("const", 0, value), ("store", "i", 0))[0], (value, 4, 5))
        self.same(self.run_on_table(("const", 0, LONG), ("do", "*", 0, 0, 0), ("store", "i", 0))[0][0], LONG * LONG)

    def test_a_fault_after_a_store(self):
        self.same(self.run_on_table(("load", 1, "i"), ("const", 0, 9), ("store", "i", 0), ("do", "div", 0, 0, 2), ("store", "i", 1)),
                  (None, (("load", 0, 1), ("store", 0, 9))))

    def test_any_code_from_every_state(self):
        chance = chance_of(21)
        faults = 0
        for _ in range(400):
            cells = chance.choice((CELLS, SMALL, MIXED))
            code = some_code(chance, cells, chance.randint(0, 12))
            for state in chance.sample(list(all_states((cells, (), (), 1))), 4):
                found = run_alone(cells, code, state)
                self.same(found, slowly_alone(cells, code, state))
                faults += found[0] is None
        self.assertGreater(faults, 100)
