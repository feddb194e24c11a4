"""[4], [15], [22] and the section expressions."""

from itertools import product

from orderless.cells import cell_ranges
from orderless.expressions import looked_at, value_in
from tests.samples import CELLS, LONG, MIXED, TABLE, Case, Fails, chance_of, slow_value, some_expression

# A cell below and above zero, and a table behind it: with (v, 4, 5), x is v.
SIGNED = (("x", 0, -9, 9, False, False, 0), ("z", 2, 0, 9, False, False, 0))
FAIL = ("at", "z", 2)
NAN = ("at", "t", 5)


class ExamplesTest(Case):
    def test_as_printed(self):
        self.same([value_in(TABLE, (1, 4, 5), ("at", "t", "i")), value_in(TABLE, (2, 4, 5), ("at", "t", "i"))], [5, None])
        found = [value_in(TABLE, (2, 4, 5), ("and", 0, ("at", "t", "i"))),
                 value_in(TABLE, (2, 4, 5), ("div", ("neg", "i"), 4))]
        self.same(found, [0, -1])
        self.same(looked_at(TABLE, (1, 4, 5), ("+", ("at", "t", "i"), "i")), ((0, 1), (2, 5)))

    def test_by_name(self):
        self.same(value_in(cells=CELLS, state=(1, 2), expression="x"), 2)
        self.same(looked_at(cells=CELLS, state=(1, 2), expression="x"), ((1, 2),))


class ValuesTest(Case):
    def of(self, expression, x=0):
        return value_in(SIGNED, (x, 4, 5), expression)

    def test_integers_names_and_tables(self):
        for n in (0, 1, -1, LONG, -LONG):
            self.same(self.of(n), n)
        self.same([self.of("x", -3), self.of(("at", "z", 0)), self.of(("at", "z", 1)), self.of(("at", "z", "x"), 1)], [-3, 4, 5, 5])

    def test_keys_outside_of_the_table(self):
        for key in (-1, -2, 2, 3, LONG, -LONG):
            self.same(self.of(("at", "z", key)), None)
        self.same([self.of(("at", "z", "x"), x) for x in (-2, -1, 0, 1, 2)], [None, None, 4, 5, None])

    def test_each_operator(self):
        told = {
            "+": lambda p, q: p + q, "-": lambda p, q: p - q, "*": lambda p, q: p * q,
            "least": lambda p, q: p if p < q else q, "most": lambda p, q: q if p < q else p,
            "=": lambda p, q: 1 if p == q else 0, "<": lambda p, q: 1 if p < q else 0,
            "<=": lambda p, q: 0 if p > q else 1,
            "and": lambda p, q: 0 if p == 0 or q == 0 else 1, "or": lambda p, q: 0 if p == 0 and q == 0 else 1,
        }
        for op, right in told.items():
            for p, q in product((-3, -2, -1, 0, 1, 2, 3), repeat=2):
                self.same(self.of((op, p, q)), right(p, q))
                self.same(self.of((op, "x", q), p), right(p, q))
                self.same(self.of((op, q, "x"), p), right(q, p))

    def test_not_and_neg(self):
        for p in (-2, -1, 0, 1, 2):
            self.same(self.of(("not", "x"), p), 1 if p == 0 else 0)
            self.same(self.of(("neg", "x"), p), 0 - p)

    def test_div_and_mod(self):
        found = [(self.of(("div", "x", 3), x), self.of(("mod", "x", 3), x)) for x in range(-7, 8)]
        self.same(found, [(-3, 2), (-2, 0), (-2, 1), (-2, 2), (-1, 0), (-1, 1), (-1, 2), (0, 0), (0, 1), (0, 2),
                          (1, 0), (1, 1), (1, 2), (2, 0), (2, 1)])
        self.same([self.of(("div", "x", 1), -5), self.of(("mod", "x", 1), -5)], [-5, 0])
        self.same([self.of(("div", -1, LONG)), self.of(("mod", -1, LONG))], [-1, LONG - 1])

    def test_if(self):
        for p in (-2, -1, 0, 1, 2):
            self.same(self.of(("if", "x", 7, -7), p), -7 if p == 0 else 7)

    def test_values_have_no_range(self):
        self.same(self.of(("*", "x", ("*", "x", 99999999)), 9), 81 * 99999999)
        self.same(self.of(("*", LONG, LONG)), LONG * LONG)

    def test_expressions_that_are_not_evaluated_do_not_fail(self):
        self.same([self.of(("and", 0, FAIL)), self.of(("or", 1, FAIL)), self.of(("or", -2, FAIL))], [0, 1, 1])
        self.same([self.of(("if", 1, 1, FAIL)), self.of(("if", 0, FAIL, 2)), self.of(("if", -1, 3, FAIL))], [1, 2, 3])
        self.same([self.of(("and", ("not", 1), ("+", FAIL, 1))), self.of(("if", "x", FAIL, "x"))], [0, 0])

    def test_failing_inside_each_operator(self):
        wholes = [("and", 1, FAIL), ("and", -1, FAIL), ("and", FAIL, 0), ("or", 0, FAIL), ("or", FAIL, 1), ("if", FAIL, 1, 1),
                  ("if", 1, FAIL, 1), ("if", 0, 1, FAIL), ("div", FAIL, 1), ("mod", FAIL, 1), ("not", FAIL), ("neg", FAIL),
                  ("at", "z", FAIL), FAIL]
        for op in ("+", "-", "*", "least", "most", "=", "<", "<="):
            wholes += [(op, FAIL, 0), (op, 0, FAIL), (op, FAIL, FAIL)]
        for whole in wholes:
            self.same(self.of(whole), None)
            self.same(self.of(("+", 1, ("neg", whole))), None)
            self.same(self.of(("and", 0, whole)), 0)

    def test_deep_nesting(self):
        deep = "x"
        for _ in range(30):
            deep = ("+", 1, deep)
        self.same([self.of(deep, 2), looked_at(SIGNED, (2, 4, 5), deep)], [32, ((0, 2),)])


class LooksTest(Case):
    def looks(self, expression, state=(1, 4, 5)):
        return looked_at(TABLE, state, expression)

    def test_what_is_looked_at_once_each_in_order(self):
        self.same(self.looks(7), ())
        self.same(self.looks("i"), ((0, 1),))
        self.same(self.looks(("+", "i", ("*", "i", "i"))), ((0, 1),))
        self.same(self.looks(("+", ("at", "t", 1), ("at", "t", 0))), ((2, 5), (1, 4)))
        self.same(self.looks(("least", ("at", "t", 1), ("+", "i", ("at", "t", ("-", "i", 0))))), ((2, 5), (0, 1)))
        self.same(self.looks(("at", "t", "i"), (0, 4, 5)), ((0, 0), (1, 4)))
        self.same(self.looks(("div", "i", 1)), ((0, 1),))
        self.same(self.looks(("not", ("neg", "i"))), ((0, 1),))

    def test_the_key_first(self):
        self.same(self.looks(("at", "t", ("-", ("at", "t", 0), 3))), ((1, 4), (2, 5)))

    def test_what_is_not_evaluated(self):
        self.same(self.looks(("and", 0, "i")), ())
        self.same(self.looks(("and", 2, "i")), ((0, 1),))
        self.same(self.looks(("or", 0, "i")), ((0, 1),))
        self.same(self.looks(("or", 2, "i")), ())
        self.same(self.looks(("if", "i", ("at", "t", 0), ("at", "t", 1))), ((0, 1), (1, 4)))
        self.same(self.looks(("if", "i", ("at", "t", 0), ("at", "t", 1)), (0, 4, 5)), ((0, 0), (2, 5)))
        self.same(self.looks(("and", ("at", "t", 0), "i"), (1, 0, 5)), ((1, 0),))
        self.same(self.looks(("or", ("at", "t", 0), "i"), (1, 0, 5)), ((1, 0), (0, 1)))

    def test_up_to_a_failure(self):
        self.same(self.looks(NAN), ())
        self.same(self.looks(("at", "t", "i"), (2, 4, 5)), ((0, 2),))
        self.same(self.looks(("at", "t", ("at", "t", 1))), ((2, 5),))
        self.same(self.looks(("+", NAN, "i")), ())
        self.same(self.looks(("+", "i", NAN)), ((0, 1),))
        self.same(self.looks(("*", ("+", ("at", "t", 0), NAN), "i")), ((1, 4),))
        self.same(self.looks(("and", "i", ("+", NAN, ("at", "t", 0)))), ((0, 1),))
        self.same(self.looks(("or", NAN, "i")), ())
        self.same(self.looks(("if", NAN, "i", ("at", "t", 0))), ())
        self.same(self.looks(("if", "i", NAN, ("at", "t", 0))), ((0, 1),))
        self.same(self.looks(("<", ("neg", NAN), "i")), ())


class AllTest(Case):
    def test_like_the_other_evaluator(self):
        chance = chance_of(4)
        for cells in (CELLS, TABLE, MIXED, SIGNED):
            states = list(product(*[range(low, high + 1) for low, high in cell_ranges(cells)]))
            for _ in range(150):
                expression = some_expression(chance, cells, 4)
                for state in chance.sample(states, min(8, len(states))):
                    looks = []
                    try:
                        right = slow_value(cells, state, expression, looks)
                    except Fails:
                        right = None
                    self.same(value_in(cells, state, expression), right)
                    firsts = tuple((k, state[k]) for k in dict.fromkeys(looks))
                    self.same(looked_at(cells, state, expression), firsts)
