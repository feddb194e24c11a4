"""[69] and lets_record."""

from orderless.errors import InvalidPaper
from orderless.orders import legal_orders
from orderless.recordchecker import lets_record
from orderless.records import record_of
from orderless.states import starts_of
from tests.samples import CHAIN, NOTHING, ODD_VALUES, PAIRED, PROG, TABLES, Case, chance_of, changed_once, some_programs
from tests.slowrecords import record_verdict

RECORD = record_of(PROG, ("add", "see", "twice"), (0, 2))
START, ROWS, END = RECORD


def with_row(k, row):
    return (START, ROWS[:k] + (row,) + ROWS[k + 1:], END)


class RecordCheckerTest(Case):
    def wrong(self, word, at, thing, program=PROG):
        self.refuses(InvalidPaper, {"word": word, "at": at}, lets_record, program, thing)
        self.same(record_verdict(program, thing), (word, at))

    def test_the_example(self):
        record = record_of(PROG, ("add", "see", "twice"), (0, 1))
        self.same(lets_record(PROG, record), (0,))
        self.wrong("end", -1, ((0, 1), record[1], (1, 2)))

    def test_by_name_and_right_ones(self):
        self.same(lets_record(thing=RECORD, program=PROG), (1,))
        self.same(lets_record(NOTHING, ((), (), ())), ())

    def test_shape(self):
        for thing in ODD_VALUES:
            self.wrong("shape", -1, thing)
            self.wrong("shape", -1, (thing, thing, thing) if thing != () else ((), (), (), ()))
        for thing in (list(RECORD), RECORD[:2], RECORD + ((),), (list(START), ROWS, END), (START, list(ROWS), END), (START, ROWS, list(END)),
                      ((0, True), ROWS, END), (START, ROWS, (True, 3)), ((0, None), ROWS, END), (START, ROWS, ("0", 3)), (2, ROWS, END)):
            self.wrong("shape", -1, thing)
        for row in (("add", ((1, 2),)), ("add", ((1, 2),), ((1, 3),), ()), ["add", ((1, 2),), ((1, 3),)], ("Add", ((1, 2),), ((1, 3),)),
                    (1, ((1, 2),), ((1, 3),)), ("add", [(1, 2)], ((1, 3),)), ("add", None, ((1, 3),)), ("add", ((1, 2, 3),), ((1, 3),)),
                    ("add", ((-1, 2),), ((1, 3),)), ("add", ((True, 2),), ((1, 3),)), ("add", ((1, True),), ((1, 3),)), ("add", ((1, 2),), False),
                    ("add", ((1, 2),), (1, 3)), ("add", ([1, 2],), ((1, 3),)), ("add", ((1, 2),), [(1, 3)]), ("add", ((1, 2),), ((1, None),)),
                    ("add", ((1, 2),), ((1,),)), ("add", (("x", 2),), ((1, 3),)), None, (), "add"):
            for k in range(3):
                self.wrong("shape", -1, with_row(k, row))

    def test_start(self):
        for start in ((1, 2), (0, 4), (0,), (), (0, 2, 0), (0, -1), (0, 10 ** 59)):
            self.wrong("start", -1, (start, ROWS, END))
        self.wrong("start", -1, RECORD, PROG[:3] + (0,))
        self.wrong("start", -1, RECORD, PROG[:3] + (("<", "x", 2),))

    def test_order(self):
        for rows in (ROWS[:2], ROWS + ROWS[:1], ROWS[:2] + ROWS[1:2], (), ROWS[:2] + (("other",) + ROWS[2][1:],)):
            self.wrong("order", -1, (START, rows, END))
        self.wrong("order", -1, RECORD, CHAIN)
        self.wrong("order", -1, record_of(PROG, ("see", "add", "twice"), START), PAIRED)

    def test_looked(self):
        for k, (name, looked, assigns) in enumerate(ROWS):
            for other in ((), looked + looked, looked + ((0, 0),), ((1, looked[0][1] - 1),), ((0, looked[0][1]),), ((10 ** 59, 0),)):
                self.wrong("looked", k, with_row(k, (name, other, assigns)))
        self.wrong("looked", 1, (START, ROWS[:1] + (("see", ((1, 2),), None),) + ROWS[2:], END))

    def test_the_order_of_looks(self):
        record = record_of(TABLES, ("move", "same"), (0, 1, 1))
        name, looked, assigns = record[1][0]
        self.same(len(looked), 2)
        self.wrong("looked", 0, (record[0], ((name, looked[::-1], assigns),) + record[1][1:], record[2]), TABLES)

    def test_assigned(self):
        for k, (name, looked, assigns) in enumerate(ROWS):
            for other in ((), ((0, 0),), ((1, 2),), (assigns or ()) + ((0, 1),), ((1, 10 ** 59),)):
                self.wrong("assigned", k, with_row(k, (name, looked, other)))
        self.wrong("assigned", 0, with_row(0, ROWS[0][:2] + (None,)))
        self.wrong("assigned", 1, with_row(1, ROWS[1][:2] + (None,)))

    def test_end(self):
        for end in ((0, 3), (1, 2), (), (1,), (1, 3, 0), (1, 10 ** 59)):
            self.wrong("end", -1, (START, ROWS, end))

    def test_two_errors(self):
        self.wrong("shape", -1, ((9,), ROWS[:1], (None,)))
        self.wrong("start", -1, ((0, 9), ROWS[:1], END))
        self.wrong("start", -1, ((0, 9), ROWS, (0, 0)))
        self.wrong("order", -1, (START, ROWS[:2] + (("other", (), ()),), (0, 0)))
        self.wrong("looked", 0, (START, (("add", (), ()),) + ROWS[1:], (0, 0)))
        self.wrong("assigned", 0, (START, (("add", ((1, 2),), ()), ("see", (), ())) + ROWS[2:], END))
        self.wrong("looked", 1, (START, ROWS[:1] + (("see", (), None), ("twice", (), ())), (0, 0)))
        self.wrong("assigned", 2, (START, ROWS[:2] + (("twice", ((1, 3),), ()),), (0, 0)))

    def test_records_of_another_start_or_order(self):
        for program in (PROG, PAIRED, TABLES):
            starts = list(starts_of(program))[:4]
            for order in legal_orders(program):
                for start in starts:
                    record = record_of(program, order, start)
                    for other in starts:
                        thing = (other,) + record[1:]
                        self.same(self.verdict(lets_record, program, thing), record_verdict(program, thing))
                    for thing in (record[:2] + (starts[0],), (record[0], record[1][::-1], record[2])):
                        self.same(self.verdict(lets_record, program, thing), record_verdict(program, thing))

    def test_records_with_any_part_changed(self):
        chance = chance_of(65)
        records = [(PROG, RECORD), (CHAIN, record_of(CHAIN, ("add", "twice", "see"), (0, 1)))]
        for program in some_programs(66, 12):
            starts = list(starts_of(program))
            if starts:
                records.append((program, record_of(program, chance.choice(list(legal_orders(program))), chance.choice(starts))))
        for program, record in records:
            self.same(self.verdict(lets_record, program, record), record_verdict(program, record))
            for thing in changed_once(record):
                self.same(self.verdict(lets_record, program, thing), record_verdict(program, thing))
