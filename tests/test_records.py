"""[15], [16], [66] to [68], (L7) of [9] and the functions of the module records."""

from orderless.orders import legal_orders
from orderless.recordchecker import lets_record
from orderless.records import again, record_of, record_result
from orderless.running import result_of
from orderless.states import starts_of
from tests.samples import CELLS, CHAIN, FREE, MIXED, MOVE, NOTHING, PAIRED, PROG, SAME, TABLE, TABLES, Case, chance_of, some_program, some_programs
from tests.slowrecords import done_again, slow_record

RECORD = ((0, 1), (("add", ((1, 1),), ((1, 2),)), ("see", ((1, 2),), None), ("twice", ((1, 2),), None)), (0, 2))


class RecordOfTest(Case):
    def test_the_example(self):
        self.same(record_of(PROG, ("add", "see", "twice"), (0, 1)), RECORD)
        self.same(record_of(start=(0, 1), program=PROG, order=("add", "see", "twice")), RECORD)

    def test_without_rules(self):
        self.same(record_of(NOTHING, (), ()), ((), (), ()))
        self.same(record_of((CELLS, (), (), 1), (), (0, 3)), ((0, 3), (), (0, 3)))

    def test_what_a_rule_looks_at_though_it_rests(self):
        self.same(record_of((TABLE, (MOVE,), (), 1), ("move",), (1, 1, 5))[1], (("move", ((0, 1), (2, 5)), None),))
        self.same(record_of((TABLE, (MOVE,), (), 1), ("move",), (2, 1, 1))[1], (("move", ((0, 2),), None),))
        self.same(record_of((TABLE, (SAME,), (), 1), ("same",), (0, 1, 1))[1], (("same", ((0, 0),), None),))
        self.same(record_of((TABLE, (SAME,), (), 1), ("same",), (1, 1, 1)),
                  ((1, 1, 1), (("same", ((0, 1),), ((1, 1), (2, 1))),), (1, 1, 1)))

    def test_looks_come_in_their_order_and_once(self):
        rule = ("r", ("<=", ("at", "t", "i"), 5), ((("t", ("-", 1, "i")), ("+", "i", ("at", "t", 0))),))
        self.same(record_of((TABLE, (rule,), (), 1), ("r",), (1, 1, 1))[1], (("r", ((0, 1), (2, 1), (1, 1)), ((1, 2),)),))

    def test_each_order_and_start(self):
        for program in [PROG, PAIRED, CHAIN, TABLES] + some_programs(61, 50):
            before = repr(program)
            for order in legal_orders(program):
                for start in starts_of(program):
                    record = record_of(program, order, start)
                    self.same(record, slow_record(program, order, start))
                    self.same(record_result(program, record), result_of(program, start, order))
                    self.same(lets_record(program, record), result_of(program, start, order))
            self.assertEqual(repr(program), before)

    def test_the_result_by_name(self):
        self.same(record_result(record=RECORD, program=PROG), (0,))
        self.same(record_result(NOTHING, ((), (), ())), ())


class AgainTest(Case):
    def test_the_example(self):
        self.same([again(PROG, RECORD, (0, 1))[1], again(PROG, RECORD, (0, 2))[0][2]], [(), (1, 3)])
        self.same(again(start=(0, 2), record=RECORD, program=PROG),
                  (((0, 2), (("add", ((1, 2),), ((1, 3),)), ("see", ((1, 3),), ((0, 1),)), ("twice", ((1, 3),), None)), (1, 3)),
                   ("add", "see", "twice")))

    def test_without_rules(self):
        self.same(again(NOTHING, ((), (), ()), ()), (((), (), ()), ()))

    def test_rows_that_are_repeated(self):
        """Behind a rule that sets x to 3, nothing that looks at x alone is done again."""
        three = ("a", 1, (("x", 3),))
        program = (CELLS, (three,) + PROG[1], (), 1)
        record = record_of(program, ("a", "add", "see", "twice"), (0, 0))
        for x in range(4):
            new, names = again(program, record, (0, x))
            self.same([new, names], [slow_record(program, ("a", "add", "see", "twice"), (0, x)), ()])
        record = record_of(program, ("twice", "a", "add", "see"), (0, 0))
        self.same([again(program, record, (0, x))[1] for x in range(4)], [(), ("twice",), ("twice",), ("twice",)])

    def test_what_is_assigned_whatever_the_cell_had(self):
        """A rule that does not look at the cell that it assigns is repeated, though the cell has another value."""
        cells = (("p", 0, 0, 2, True, True, 0), ("q", 0, 0, 2, True, True, 0))
        program = (cells, (("a", 1, (("q", 1),)), ("b", "q", (("p", "q"),))), (), 1)
        record = record_of(program, ("a", "b"), (0, 0))
        for start in starts_of(program):
            self.same(again(program, record, start), (slow_record(program, ("a", "b"), start), ()))

    def test_a_cell_that_only_the_key_looks_at(self):
        program = (TABLE, (MOVE,), (), 1)
        record = record_of(program, ("move",), (0, 1, 1))
        self.same(again(program, record, (1, 1, 1)), (slow_record(program, ("move",), (1, 1, 1)), ("move",)))

    def again_from(self, program, record, order, start):
        before = repr((program, record, start))
        new, names = again(program, record, start)
        self.assertEqual(repr((program, record, start)), before)
        self.same(new, slow_record(program, order, start))
        self.same(names, done_again(program, record, start))
        return new

    def test_each_start_after_each_other_one(self):
        for program in [PROG, CHAIN, (TABLES[0], TABLES[1], (), ("<", "i", 3))] + some_programs(62, 40):
            starts = list(starts_of(program))
            for order in list(legal_orders(program))[:3]:
                for start in starts:
                    record = record_of(program, order, start)
                    for other in starts:
                        self.again_from(program, record, order, other)

    def test_records_that_were_made_again(self):
        chance = chance_of(63)
        for program in [PROG, FREE] + some_programs(64, 25) + [some_program(chance, MIXED, 3) for _ in range(25)]:
            starts = list(starts_of(program))
            order = chance.choice(list(legal_orders(program)))
            if starts:
                record = record_of(program, order, chance.choice(starts))
                for _ in range(12):
                    record = self.again_from(program, record, order, chance.choice(starts))
