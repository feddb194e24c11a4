"""[44] to [50]: the checkers of pair papers and open papers."""

from orderless.errors import InvalidPaper
from orderless.noticing import open_pairs
from orderless.openchecker import lets_open, lets_pair
from orderless.openpapers import open_paper, pair_paper
from orderless.orders import unordered_pairs
from tests.paperwork import Verdicts
from tests.samples import CHAIN, NINE, NOTHING, ODD_VALUES, PAIRED, PROG, Case, changed_once, free_rules, some_programs

# In both shown cells each rule changes one cell: nothing is noticed.
APART_CELLS = (("x", 0, 0, 1, True, True, 0), ("y", 0, 0, 1, False, True, 0))
UP, VIEW = ("up", 1, (("x", ("-", 1, "x")),)), ("view", 1, (("y", 1),))
APART = (APART_CELLS, (UP, VIEW), (), 1)
ARRIVING = (((), (0, 2)), (("up",), (0, 2)), (("up", "view"), (1, 3)), (("view",), (1, 3)))
CLASSES = (((), (0, 0, 2, 2)), (("up",), (0, 0, 2, 2)), (("up", "view"), (0, 1, 2, 3)), (("view",), (0, 1, 2, 3)))

# a and b are noticed only behind c; before that both rest.
LATER_CELLS = (("x", 0, 0, 1, False, False, 0), ("y", 0, 0, 2, False, True, 0))
LATER = (LATER_CELLS, (("a", "x", (("y", 1),)), ("b", "x", (("y", 2),)), ("c", 1, (("x", 1),))), (), 1)

TRACE = ((0, 1), (), ("see",))
PAPER = open_paper(PROG)
ALL = (0, 1, 2, 3, 4, 5, 6, 7)
FULL_ARRIVING = tuple((prefix, ALL) for prefix, _ in PAPER[0])
FULL_CLASSES = tuple((prefix, ALL) for prefix, _ in PAPER[1])


def put(table, k, numbers):
    """The table with other numbers in row k."""
    return table[:k] + ((table[k][0], tuple(numbers)),) + table[k + 1:]


class PairCheckerTest(Case):
    def wrong(self, word, at, thing, program=PROG, one="see", other="twice"):
        self.refuses(InvalidPaper, {"word": word, "at": at}, lets_pair, program, one, other, thing)
        self.refuses(InvalidPaper, {"word": word, "at": at}, lets_pair, program, other, one, thing)

    def table_wrong(self, word, at, arriving=ARRIVING, classes=CLASSES):
        self.wrong(word, at, ("closed", arriving, classes), APART, "up", "view")
        self.refuses(InvalidPaper, {"word": word, "at": at}, lets_open, APART, (arriving, classes, (("up", "view", None),)))

    def test_the_examples(self):
        self.same(lets_pair(PROG, "twice", "add", ("open", (0, 1), (), ("see",))), "open")
        self.wrong("same", -1, ("open", (0, 1), (), ("add",)))

    def test_by_name(self):
        self.same(lets_pair(thing=("open",) + TRACE, other="add", one="twice", program=PROG), "open")
        self.same(lets_pair(thing=("closed", ARRIVING, CLASSES), other="up", one="view", program=APART), "closed")

    def test_shape(self):
        closed = ("closed", ARRIVING, CLASSES)
        for thing in ODD_VALUES + (
                ("open",), ("open", (0, 1), ()), ("open",) + TRACE + ((),), ["open", *TRACE], ("closed",) + TRACE, ("Open",) + TRACE,
                TRACE, ("open", [0, 1], (), ("see",)), ("open", (0, True), (), ("see",)), ("open", (False, 1), (), ("see",)),
                ("open", (0, None), (), ("see",)), ("open", (0, "1"), (), ("see",)), ("open", (0, 1), [], ("see",)),
                ("open", (0, 1), (), ["see"]), ("open", (0, 1), (), "see"), ("open", (0, 1), ("See",), ("see",)),
                ("open", (0, 1), (), ("",)), ("open", (0, 1), (1,), ("see",)), ("open", (0, 1), (), (None,)), (True,) + TRACE,
                ("open", 1, (), ("see",)), ("open", (0, 1), None, ("see",)), ("open",) + closed[1:], ("closed",), closed[:2],
                closed + ((),), list(closed), ("closed", list(ARRIVING), CLASSES), ("closed", ARRIVING, list(CLASSES)),
                ("closed", put(ARRIVING, 0, (True, 2)), CLASSES), ("closed", ARRIVING, put(CLASSES, 1, (False, 0, 2, 2))),
                ("closed", put(ARRIVING, 3, (-1, 3)), CLASSES), ("closed", ARRIVING, put(CLASSES, 3, (0, 1, 2, -3))),
                ("closed", ARRIVING[:3] + ((("view",), [1, 3]),), CLASSES), ("closed", ARRIVING, CLASSES[:3] + ((["view"], ALL),)),
                ("closed", ARRIVING[:3] + ((("View",), (1, 3)),), CLASSES), ("closed", ARRIVING[:3] + (("view", (1, 3)),), CLASSES),
                ("closed", ARRIVING[:3] + ([("view",), (1, 3)],), CLASSES), ("closed", ARRIVING[:3] + (None,), CLASSES),
                ("closed", ARRIVING, CLASSES[:3] + ((("view",), ALL, ()),)), ("closed", None, CLASSES), ("closed", ARRIVING, "")):
            self.wrong("shape", -1, thing)
            self.wrong("shape", -1, thing, APART, "up", "view")

    def test_open(self):
        self.same(lets_pair(PROG, "add", "see", ("open", (0, 2), (), ("twice",))), "open")
        self.same(lets_pair(PROG, "add", "see", ("open", (0, 1), ("twice",), ())), "open")
        for start in ((1, 1), (0, 4), (0, -1), (0,), (), (0, 1, 0), (0, 10 ** 59)):
            self.wrong("start", -1, ("open", start, (), ("see",)), PROG, "add", "twice")
        self.wrong("start", -1, ("open", (0, 1), (), ("see",)), PROG[:3] + (("=", "x", 2),), "add", "twice")
        for before, after in (((), ()), (("see",), ("see",)), (("add",), ()), ((), ("twice",)), ((), ("other",)),
                              ((), ("see", "see")), (("add", "see"), ()), ((), ("see", "add"))):
            self.wrong("order", -1, ("open", (0, 1), before, after), PROG, "add", "twice")
        self.wrong("order", -1, ("open", (0, 1), ("see",), ()), PAIRED, "add", "twice")
        self.wrong("order", -1, ("open", (0, 2), (), ("add",)), PAIRED, "see", "twice")
        self.wrong("same", -1, ("open", (0, 0), (), ("see",)), PROG, "add", "twice")
        self.wrong("same", -1, ("open", (0, 1), ("see",), ()), PROG, "add", "twice")

    def test_orders_of_which_one_only_is_legal(self):
        """Unordered rules are meant; so one of both orders alone cannot be legal, but one can be by an ordered pair."""
        self.refuses(InvalidPaper, {"word": "order", "at": -1}, lets_pair, CHAIN, "add", "twice", ("open", (0, 1), (), ("see",)))
        self.refuses(InvalidPaper, {"word": "order", "at": -1}, lets_pair, CHAIN, "see", "twice", ("open", (0, 1), ("add",), ()))

    def test_closed(self):
        self.same(lets_pair(APART, "up", "view", ("closed", ARRIVING, CLASSES)), "closed")
        # More states than arrive, and more marks than classes, with any marks.
        every = tuple((prefix, (0, 1, 2, 3)) for prefix, _ in ARRIVING)
        marks = tuple((prefix, (9, 10 ** 59, 7, 8)) for prefix, _ in ARRIVING)
        for arriving in (ARRIVING, every):
            for classes in (CLASSES, marks):
                self.same(lets_pair(APART, "view", "up", ("closed", arriving, classes)), "closed")
        self.same(lets_pair(PROG, "see", "twice", ("closed", FULL_ARRIVING, FULL_CLASSES)), "closed")

    def test_prefixes(self):
        self.table_wrong("prefixes", 0, ARRIVING[:3])
        self.table_wrong("prefixes", 0, ARRIVING[1:])
        self.table_wrong("prefixes", 0, ())
        self.table_wrong("prefixes", 0, ARRIVING[::-1])
        self.table_wrong("prefixes", 0, ARRIVING + ((("view", "view"), ()),))
        self.table_wrong("prefixes", 0, ARRIVING[:1] + ARRIVING)
        self.table_wrong("prefixes", 0, ARRIVING[:2] + ((("view", "up"), (1, 3)),) + ARRIVING[3:])
        self.table_wrong("prefixes", 1, classes=CLASSES[:3])
        self.table_wrong("prefixes", 1, classes=CLASSES[:3] + ((("viewer",), (0, 1, 2, 3)),))
        self.table_wrong("prefixes", 0, (), ())

    def test_numbers(self):
        for k, numbers in ((0, (0, 2, 4)), (0, (2, 0)), (1, (0, 0, 2)), (1, (10 ** 59,)), (2, (1, 3, 3)), (3, (3, 1)), (3, (1, 4))):
            self.table_wrong("numbers", k, put(ARRIVING, k, numbers))

    def test_starts(self):
        for numbers in ((), (0,), (2,), (0, 1), (1, 2, 3)):
            self.table_wrong("starts", -1, put(ARRIVING, 0, numbers))

    def test_behind(self):
        self.table_wrong("behind", (0, 0), put(ARRIVING, 1, (0,)))
        self.table_wrong("behind", (0, 1), put(ARRIVING, 3, (1,)))
        self.table_wrong("behind", (1, 0), put(ARRIVING, 2, (3,)))
        self.table_wrong("behind", (1, 0), put(ARRIVING, 2, ()))
        self.table_wrong("behind", (3, 0), put(put(ARRIVING, 3, (0, 1, 3)), 1, (0, 2)))
        self.table_wrong("behind", (0, 0), put(ARRIVING, 0, (0, 1, 2, 3)))

    def test_marks(self):
        for k in range(4):
            for marks in ((), (0, 1, 2), (0, 1, 2, 3, 4)):
                self.table_wrong("marks", k, classes=put(CLASSES, k, marks))

    def test_shown(self):
        for marks in ((0, 0, 2, 3), (0, 1, 2, 0), (5, 6, 7, 7), (0, 0, 0, 0)):
            self.table_wrong("shown", -1, classes=put(CLASSES, 2, marks))

    def test_classes(self):
        self.table_wrong("classes", (0, 0), classes=put(CLASSES, 0, (0, 0, 0, 2)))
        self.table_wrong("classes", (0, 0), classes=put(CLASSES, 1, (0, 1, 2, 2)))
        self.table_wrong("classes", (0, 1), classes=put(put(CLASSES, 0, (0, 0, 0, 0)), 1, (0, 0, 0, 0)))
        self.table_wrong("classes", (1, 0), classes=put(put(CLASSES, 0, (0, 1, 2, 3)), 1, (0, 0, 0, 3)))
        self.table_wrong("classes", (3, 0), classes=put(put(CLASSES, 0, (0, 1, 2, 3)), 3, (0, 0, 2, 3)))

    def test_noticed(self):
        for pair in (("add", "twice"), ("add", "see")):
            self.wrong("noticed", 0, ("closed",) + PAPER[:2], PROG, *pair)
            self.wrong("noticed", 0, ("closed", FULL_ARRIVING, FULL_CLASSES), PROG, *pair)
        self.wrong("noticed", 7, ("closed",) + open_paper(LATER)[:2], LATER, "a", "b")
        self.wrong("noticed", 1, ("closed",) + open_paper(LATER)[:2], LATER, "c", "b")
        # With more states than arrive x is 1 at (), too.
        every = tuple((prefix, tuple(range(6))) for prefix, _ in open_paper(LATER)[0])
        self.wrong("noticed", 0, ("closed", every, open_paper(LATER)[1]), LATER, "a", "b")

    def test_the_order_of_errors(self):
        """Each value has the error that is told, and those that are told in the rows below it."""
        several = [
            ("prefixes", 0, ARRIVING[1:], CLASSES[1:]),
            ("prefixes", 1, put(ARRIVING, 0, (4, 4)), CLASSES[1:]),
            ("numbers", 0, put(put(ARRIVING, 0, (4, 4)), 1, (4,)), put(CLASSES, 0, ())),
            ("numbers", 1, put(put(ARRIVING, 0, ()), 1, (4,)), put(CLASSES, 0, ())),
            ("starts", -1, put(put(ARRIVING, 0, (0,)), 1, ()), put(CLASSES, 0, ())),
            ("behind", (0, 0), put(put(ARRIVING, 1, ()), 3, ()), put(CLASSES, 0, ())),
            ("behind", (0, 1), put(put(ARRIVING, 3, ()), 2, ()), put(CLASSES, 0, ())),
            ("behind", (1, 0), put(ARRIVING, 2, ()), put(CLASSES, 0, ())),
            ("marks", 0, ARRIVING, put(put(CLASSES, 0, ()), 2, (0, 0, 0))),
            ("marks", 2, ARRIVING, put(put(CLASSES, 1, (0, 1, 2, 3)), 2, (0, 0, 0))),
            ("shown", -1, ARRIVING, put(put(CLASSES, 0, (0, 0, 0, 0)), 2, (0, 0, 0, 0))),
            ("classes", (0, 0), ARRIVING, put(put(CLASSES, 0, (0, 0, 0, 0)), 3, (0, 0, 0, 0))),
        ]
        for word, at, arriving, classes in several:
            self.table_wrong(word, at, arriving, classes)
            self.refuses(InvalidPaper, {"word": word, "at": at}, lets_open, APART, (arriving, classes, ()))
        self.wrong("start", -1, ("open", (1, 1), (), ()), PROG, "add", "twice")
        self.wrong("order", -1, ("open", (0, 0), (), ()), PROG, "add", "twice")
        marks = put(open_paper(LATER)[1], 0, (0,) * 6)
        self.wrong("classes", (0, 0), ("closed", open_paper(LATER)[0], marks), LATER, "a", "b")

    def test_papers_with_any_part_changed(self):
        words = set()
        for program, one, other in ((PROG, "add", "twice"), (PROG, "see", "add"), (APART, "view", "up")):
            verdicts = Verdicts(program)
            for thing in changed_once(pair_paper(program, one, other)):
                right = verdicts.of_pair(one, other, thing)
                words.add(right[0])
                self.same(self.verdict(lets_pair, program, one, other, thing), right)
        self.assertEqual(words, {"accepted", "shape", "start", "order", "same", "prefixes", "numbers", "starts", "behind",
                                 "marks", "shown", "classes"})

    def test_papers_of_other_pairs(self):
        words = set()
        for program in [PROG, PAIRED, LATER] + some_programs(101, 25):
            verdicts = Verdicts(program)
            pairs = unordered_pairs(program)
            for paper in [pair_paper(program, *pair) for pair in pairs]:
                for pair in pairs:
                    right = verdicts.of_pair(*pair, paper)
                    words.add(right[0])
                    self.same(self.verdict(lets_pair, program, *pair, paper), right)
        self.assertEqual(words, {"accepted", "order", "noticed"})


class OpenCheckerTest(Case):
    def wrong(self, word, at, thing, program=PROG):
        self.refuses(InvalidPaper, {"word": word, "at": at}, lets_open, program, thing)

    def row_wrong(self, word, at, *rows):
        self.wrong(word, at, PAPER[:2] + (rows,))

    def test_the_example(self):
        self.same(lets_open(PROG, open_paper(PROG)), (("add", "see"), ("add", "twice")))
        self.same(lets_open(thing=PAPER, program=PROG), (("add", "see"), ("add", "twice")))

    def test_other_papers(self):
        rows = (("add", "see", ((0, 2), ("twice",), ())), ("add", "twice", TRACE), ("see", "twice", None))
        self.same(lets_open(PROG, PAPER[:2] + (rows,)), (("add", "see"), ("add", "twice")))
        self.same(lets_open(PROG, (FULL_ARRIVING, FULL_CLASSES, rows)), (("add", "see"), ("add", "twice")))
        self.same(lets_open(APART, (ARRIVING, CLASSES, (("up", "view", None),))), ())
        self.same(lets_open(NOTHING, ((((), (0,)),), (((), (7,)),), ())), ())

    def test_shape(self):
        rows = PAPER[2]
        for thing in ODD_VALUES + (
                PAPER[:2], PAPER + ((),), list(PAPER), PAPER[:2] + (list(rows),), PAPER[:2] + (None,), ([],) + PAPER[1:],
                (None,) + PAPER[1:], (PAPER[0], []) + PAPER[2:], PAPER[:1] + PAPER[2:], ("closed",) + PAPER):
            self.wrong("shape", -1, thing)
        for k in range(3):
            one, other, trace = rows[k]
            for row in (None, (), (one, other), rows[k] + ((),), list(rows[k]), (one, 1, trace), (None, other, trace),
                        (one, "See", trace), ("", other, trace), (one, other, False), (one, other, 0), (one, other, ()),
                        (one, other, TRACE[:2]), (one, other, TRACE + ((),)), (one, other, list(TRACE)),
                        (one, other, ("open",) + TRACE), (one, other, ([0, 1],) + TRACE[1:]),
                        (one, other, ((0, True),) + TRACE[1:]), (one, other, (TRACE[0], (), ("See",))),
                        (one, other, (TRACE[0], [], ("see",))), (one, other, (TRACE[0], (), (None,))), (one, other, "")):
                self.row_wrong("shape", -1, *rows[:k], row, *rows[k + 1:])

    def test_pairs(self):
        rows = PAPER[2]
        for wrong in ((), rows[:2], rows[1:], rows[::-1], rows + rows[2:], rows[:1] + rows, rows + (("twice", "twice", None),),
                      rows[:2] + (("twice", "see", None),), (("see", "add", rows[0][2]),) + rows[1:],
                      rows[:2] + (("see", "tw", None),), rows[:1] + rows[2:] + rows[1:2]):
            self.row_wrong("pairs", -1, *wrong)
        paper = open_paper(CHAIN)
        self.same(lets_open(CHAIN, paper), ())
        self.wrong("pairs", -1, paper[:2] + (rows[2:],), CHAIN)

    def test_rows(self):
        one, two, three = PAPER[2]
        self.row_wrong("noticed", (0, 0), one[:2] + (None,), two, three)
        self.row_wrong("noticed", (1, 0), one, two[:2] + (None,), three)
        self.row_wrong("start", 0, one[:2] + (((1, 2), (), ("twice",)),), two, three)
        self.row_wrong("start", 1, one, two[:2] + (((0, 4), (), ("see",)),), three)
        self.row_wrong("order", 0, one[:2] + (((0, 2), (), ("add",)),), two, three)
        self.row_wrong("order", 1, one, two[:2] + (((0, 2), ("see",), ("see",)),), three)
        self.row_wrong("same", 0, one[:2] + (((0, 0), (), ("twice",)),), two, three)
        self.row_wrong("same", 1, one, two[:2] + (((0, 1), ("see",), ()),), three)
        self.row_wrong("same", 2, one, two, three[:2] + (((0, 1), (), ("add",)),))
        self.row_wrong("start", 2, one, two, three[:2] + (((0, 5), (), ("add",)),))
        self.row_wrong("order", 2, one, two, three[:2] + (((0, 1), (), ()),))
        arriving, classes, rows = open_paper(LATER)
        self.wrong("noticed", (0, 7), (arriving, classes, (("a", "b", None),) + rows[1:]), LATER)
        self.wrong("noticed", (2, 1), (arriving, classes, rows[:2] + (("b", "c", None),)), LATER)

    def test_the_order_of_errors(self):
        one, two, three = PAPER[2]
        self.wrong("shape", -1, (PAPER[0][1:], PAPER[1], (one, two, None)))
        self.wrong("prefixes", 0, (PAPER[0][1:], PAPER[1], (one, two)))
        self.wrong("marks", 4, (PAPER[0], put(PAPER[1], 4, ()), (one, two)))
        self.row_wrong("pairs", -1, one[:2] + (None,), two)
        self.row_wrong("noticed", (0, 0), one[:2] + (None,), two[:2] + (((9,), (), ()),), three)
        self.row_wrong("start", 0, one[:2] + (((9,), (), ()),), two[:2] + (None,), three)
        self.row_wrong("order", 0, one[:2] + (((0, 0), (), ()),), two[:2] + (None,), three)
        self.row_wrong("same", 0, one[:2] + (((0, 0), (), ("twice",)),), two[:2] + (((9,), (), ()),), three)

    def test_papers_with_any_part_changed(self):
        words = set()
        for program in (PROG, APART, CHAIN):
            verdicts = Verdicts(program)
            for thing in changed_once(open_paper(program)):
                right = verdicts.of_program(thing)
                words.add(right[0])
                self.same(self.verdict(lets_open, program, thing), right)
        self.assertEqual(words, {"accepted", "shape", "start", "order", "same", "prefixes", "numbers", "starts", "behind",
                                 "marks", "shown", "classes", "pairs", "noticed"})

    def test_papers_of_other_programs(self):
        words = set()
        programs = [PROG, PAIRED, LATER] + some_programs(102, 40)
        for program, near in zip(programs, programs[1:]):
            verdicts = Verdicts(program)
            unsettled = program[:2] + ((), 1)
            for paper in (open_paper(near), open_paper(unsettled), open_paper(unsettled)[:2] + open_paper(program)[2:]):
                right = verdicts.of_program(paper)
                words.add(right[0])
                self.same(self.verdict(lets_open, program, paper), right)
        self.assertTrue({"accepted", "prefixes"} <= words)

    def test_four_rules(self):
        program = (NINE, free_rules(4), (), 1)
        self.same(lets_open(program, open_paper(program)), open_pairs(program))
