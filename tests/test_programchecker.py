"""[6], [13] and the section programchecker."""

from orderless.errors import InvalidPaper
from orderless.programchecker import lets_program
from tests.samples import ADD, CELLS, LONG, MIXED, MOVE, ODD_VALUES, PROG, SAME, SEE, TABLE, TWICE, Case

RULES = (ADD, SEE, TWICE)


def plain(name, high=0):
    """A row for a plain cell that is not shown."""
    return (name, 0, 0, high, False, False, 0)


class CheckerCase(Case):
    def lets(self, program, number):
        self.same(lets_program(program), number)

    def stops(self, program, word, at):
        self.refuses(InvalidPaper, {"word": word, "at": at}, lets_program, program)


class AcceptedTest(CheckerCase):
    def test_the_example(self):
        self.lets(PROG, 8)
        self.same(lets_program(thing=PROG), 8)

    def test_other_programs(self):
        self.lets(((), (), (), 1), 1)
        self.lets((CELLS, (), (), 0), 8)
        self.lets((TABLE, (MOVE, SAME), (("same", "move"),), ("<", "i", 2)), 144)
        self.lets((MIXED, (), (), ("at", "b", ("least", 1, ("+", "a", 2)))), 96)
        self.lets((CELLS, RULES, (("add", "see"), ("see", "twice")), "x"), 8)
        self.lets((CELLS, RULES, (("see", "twice"), ("twice", "add")), "x"), 8)

    def test_more_than_six_rules(self):
        rules = tuple((name, 1, (("x", 1),)) for name in "abcdefgh")
        self.lets((CELLS, rules, (("a", "h"),), 1), 8)

    def test_ten_cells_and_256_states(self):
        self.lets((tuple(plain(name) for name in "abcdefghij"), (), (), 1), 1)
        self.lets((tuple(plain(name, 1) for name in "abcdefgh"), (), (), 1), 256)
        self.lets(((plain("a", 255),), (), (), 1), 256)
        self.lets(((("t", 10, 0, 0, False, False, 0),), (), (), 1), 1)
        self.lets(((plain("a"), ("t", 8, 0, 1, False, False, 0), plain("z")), (), (), 1), 256)
        self.lets(((("a", 0, LONG - 255, LONG, False, False, LONG),), (), (), 1), 256)


class ShapeTest(CheckerCase):
    def test_no_program_at_all(self):
        for thing in ODD_VALUES + (list(PROG), PROG[:3], PROG + (1,), CELLS, RULES, ADD, "x", 1):
            self.stops(thing, "shape", -1)

    def test_cells(self):
        row = CELLS[1]
        for thing in (list(CELLS), CELLS[0], (list(row),), (row[:6],), (row + (1,),), None, 1, "x", ((),)):
            self.stops((thing, (), (), 1), "shape", -1)
        wrong = ((0, ("X", "", 1)), (1, (-1, True, "0")), (2, (False, None)), (3, (True, "3")), (4, (1, 0, None)),
                 (5, (0, 1, "x")), (6, (False, None)))
        for k, parts in wrong:
            for part in parts:
                self.stops(((CELLS[0], row[:k] + (part,) + row[k + 1:]), (), (), 1), "shape", -1)

    def test_rules_pairs_and_starts(self):
        for thing in (list(RULES), ADD, (list(ADD),), (ADD, 1), (("add", 1, ()),), (("add", True, ADD[2]),), None, "x"):
            self.stops((CELLS, thing, (), 1), "shape", -1)
        for thing in (("add", "see"), [("add", "see")], (["add", "see"],), (("add",),), (("add", "see", "twice"),),
                      (("add", 1),), ((1, "add"),), (("Add", "see"),), None, 1):
            self.stops((CELLS, RULES, thing, 1), "shape", -1)
        for thing in (True, None, "", "X", ["+", 1, 2], ("+", 1), ("div", 1, 0), ()):
            self.stops((CELLS, RULES, (), thing), "shape", -1)

    def test_equal_names_and_wrong_ranges_are_no_matter_of_shape(self):
        self.stops(((plain("x"), plain("x")), (), (), None), "shape", -1)
        self.stops(((("x", 0, 3, 1, True, False, 9),), (), (), None), "shape", -1)
        self.stops((CELLS[::-1], (ADD, ADD), (("x", "x"),), True), "shape", -1)


class CellsTest(CheckerCase):
    def test_names_that_do_not_ascend(self):
        self.stops((CELLS[::-1], (), (), 1), "cell", 1)
        self.stops(((plain("x"), plain("x")), (), (), 1), "cell", 1)
        self.stops(((plain("a"), plain("c"), plain("d"), plain("b")), (), (), 1), "cell", 3)
        # A prefix of a name is less than the name; only names are compared.
        self.lets(((plain("a", 1), plain("aa")), (), (), 1), 2)
        self.stops(((plain("aa"), plain("a", 1)), (), (), 1), "cell", 1)

    def test_ranges(self):
        for low, first, high in ((1, 0, 2), (0, 3, 2), (2, 1, 1), (2, 2, 1), (2, 0, 1), (0, 0, -1)):
            row = ("x", 0, low, high, False, False, first)
            self.stops(((row,), (), (), 1), "range", 0)
            self.stops(((plain("a"), row, plain("y")), (), (), 1), "range", 1)

    def test_inputs(self):
        row = ("x", 0, 0, 2, True, False, 1)
        self.stops(((row,), (), (), 1), "input", 0)
        self.stops(((plain("a"), row), (), (), 1), "input", 1)
        self.lets(((("x", 0, 0, 2, False, False, 1),), (), (), 1), 3)

    def test_the_order_of_errors_in_a_row_and_of_rows(self):
        both = ("x", 0, 0, 2, True, False, 3)
        self.stops(((both,), (), (), 1), "range", 0)
        self.stops(((plain("y"), both), (), (), 1), "cell", 1)
        self.stops(((both, plain("a")), (), (), 1), "range", 0)
        self.stops(((("x", 0, 0, 2, True, False, 1), plain("a")), (), (), 1), "input", 0)

    def test_too_many(self):
        self.stops((tuple(plain(name) for name in "abcdefghijk"), (), (), 1), "many", -1)
        self.stops(((("t", 11, 0, 0, False, False, 0),), (), (), 1), "many", -1)
        self.stops(((plain("a"), plain("b"), ("t", 9, 0, 0, False, False, 0)), (), (), 1), "many", -1)
        self.stops(((("a", LONG, 0, 0, False, False, 0),), (), (), 1), "many", -1)
        self.stops(((plain("a", 256),), (), (), 1), "many", -1)
        self.stops(((plain("a", 1), plain("b", 128)), (), (), 1), "many", -1)
        self.stops(((("a", 0, -1, 255, False, False, 0),), (), (), 1), "many", -1)
        self.stops(((("t", 9, 0, 1, False, False, 0),), (), (), 1), "many", -1)
        self.stops(((("t", 2, 0, 16, False, False, 0),), (), (), 1), "many", -1)
        self.stops(((plain("a", 0), ("b", 0, -LONG, LONG, False, False, 0)), (), (), 1), "many", -1)

    def test_many_comes_behind_the_rows_and_before_the_rules(self):
        self.stops(((plain("b", 999), plain("a")), (ADD,), (), 1), "cell", 1)
        self.stops(((plain("b", 999), ("c", 0, 1, 0, False, False, 0)), (ADD,), (), 1), "range", 1)
        self.stops(((plain("b", 999),), (ADD, ADD), (), "x"), "many", -1)


class RulesTest(CheckerCase):
    def test_names_that_do_not_ascend(self):
        self.stops((CELLS, (SEE, ADD), (), 1), "rule", 1)
        self.stops((CELLS, (ADD, ADD), (), 1), "rule", 1)
        self.stops((CELLS, (ADD, TWICE, SEE), (), 1), "rule", 2)

    def test_rules_that_do_not_fit(self):
        self.stops((CELLS, (MOVE,), (), 1), "fit", 0)
        self.stops((CELLS, (ADD, MOVE, SEE), (), 1), "fit", 1)
        self.stops((CELLS, (("add", "y", (("x", 1),)),), (), 1), "fit", 0)
        self.stops((CELLS, (("add", 1, (("y", 1),)),), (), 1), "fit", 0)
        self.stops((CELLS, (("add", 1, (("x", "y"),)),), (), 1), "fit", 0)
        self.stops((CELLS, (("add", 1, ((("x", 0), 1),)),), (), 1), "fit", 0)
        self.stops(((), (ADD,), (), 1), "fit", 0)

    def test_both(self):
        self.stops((CELLS, (SEE, MOVE), (), 1), "rule", 1)
        self.stops((CELLS, (MOVE, ADD), (), 1), "fit", 0)
        self.stops((CELLS, (MOVE,), (("x", "x"),), "y"), "fit", 0)


class PairsTest(CheckerCase):
    def test_names(self):
        for pair in (("add", "add"), ("add", "x"), ("x", "add"), ("x", "y")):
            self.stops((CELLS, RULES, (pair,), 1), "pair", 0)
        self.stops((CELLS, RULES, (("add", "see"), ("big", "x")), 1), "pair", 1)
        self.stops((CELLS, (), (("add", "see"),), 1), "pair", 0)

    def test_pairs_that_do_not_ascend(self):
        self.stops((CELLS, RULES, (("see", "twice"), ("add", "see")), 1), "order", 1)
        self.stops((CELLS, RULES, (("add", "see"), ("add", "see")), 1), "order", 1)
        self.stops((CELLS, RULES, (("add", "see"), ("add", "twice"), ("add", "see")), 1), "order", 2)

    def test_the_order_of_errors(self):
        self.stops((CELLS, RULES, (("see", "twice"), ("add", "add")), 1), "pair", 1)
        self.stops((CELLS, RULES, (("see", "twice"), ("add", "see"), ("add", "add")), 1), "order", 1)
        self.stops((CELLS, RULES, (("see", "twice"), ("twice", "see"), ("add", "see")), "big"), "order", 2)

    def test_circles(self):
        self.stops((CELLS, RULES, (("add", "see"), ("see", "add")), 1), "circle", -1)
        self.stops((CELLS, RULES, (("add", "see"), ("see", "twice"), ("twice", "add")), 1), "circle", -1)
        self.stops((CELLS, RULES, (("add", "see"), ("see", "twice"), ("twice", "see")), 1), "circle", -1)
        self.stops((CELLS, RULES, (("add", "see"), ("add", "twice"), ("see", "add")), "big"), "circle", -1)
        self.lets((CELLS, RULES, (("add", "see"), ("add", "twice"), ("see", "twice")), 1), 8)

    def test_circles_of_more_pairs(self):
        names = "abcdef"
        rules = tuple((name, 1, (("x", 1),)) for name in names)
        chain = tuple(zip(names, names[1:]))
        self.lets((CELLS, rules, chain, 1), 8)
        self.lets((CELLS, rules, tuple(sorted(chain + (("a", "f"), ("b", "e")))), 1), 8)
        for pair in (("f", "a"), ("f", "b"), ("e", "b"), ("d", "c")):
            self.stops((CELLS, rules, tuple(sorted(chain + (pair,))), 1), "circle", -1)
        self.stops((CELLS, rules, (("a", "b"), ("c", "d"), ("d", "c"), ("e", "f")), 1), "circle", -1)


class StartsTest(CheckerCase):
    def test_names(self):
        for starts in ("big", "y", ("at", "x", 0), ("+", "x", "big"), ("and", 0, "big")):
            self.stops((CELLS, RULES, (), starts), "starts", -1)
        self.stops((TABLE, (), (), ("at", "t", 0)), "starts", -1)
        self.stops((TABLE, (), (), "t"), "starts", -1)

    def test_tables_of_inputs(self):
        self.lets((MIXED, (), (), ("at", "b", 1)), 96)
        self.lets((MIXED, (), (), ("at", "b", ("most", "a", 0))), 96)

    def test_starts_that_fail(self):
        self.stops((MIXED, (), (), ("at", "b", 2)), "fails", -1)
        # -1 is no key, and a can be less than 0.
        self.stops((MIXED, (), (), ("at", "b", "a")), "fails", -1)
        self.stops((MIXED, (), (), ("at", "b", ("-", 0, "a"))), "fails", -1)
        self.stops((MIXED, (), (), ("at", "b", ("*", 2, ("=", "a", 1)))), "fails", -1)
        self.stops((MIXED, (), (), ("or", ("<", "a", 1), ("at", "b", 2))), "fails", -1)
        self.lets((MIXED, (), (), ("or", ("<", "a", 2), ("at", "b", 2))), 96)
        # Where the other table element is greatest, and only there.
        last = ("and", ("=", "a", 1), ("=", ("+", ("at", "b", 0), ("at", "b", 1)), 8))
        self.stops((MIXED, (), (), ("if", last, ("at", "b", 9), 1)), "fails", -1)

    def test_no_start_is_no_error(self):
        self.lets((CELLS, RULES, (), 0), 8)
        self.lets((CELLS, RULES, (), ("<", "x", 0)), 8)

    def test_starts_come_last(self):
        self.stops((CELLS, RULES, (("add", "add"),), "big"), "pair", 0)
        self.stops((MIXED, (), (), ("+", ("at", "b", 2), "c")), "starts", -1)
