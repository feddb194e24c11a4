"""[4], [17], [18] and the section expressionclasses."""

from orderless.errors import InvalidText
from orderless.expressionclasses import (
    Cell, Choice, Clamped, ClampedCell, Expression, Formed, Gauge, Lever, Scaled, ScaledCell, Table,
)
from orderless.expressions import value_in
from orderless.programreadings import expression_read
from orderless.programtexts import expression_text
from tests.samples import CELLS, TABLE, Case

X = Cell("x")
AT = ("at", "t", "i")


def some_objects():
    """Pairs of an object of each class and its form."""
    return (
        (Expression(), 0),
        (Formed(("+", "x", 1)), ("+", "x", 1)),
        (Formed(5), 5),
        (Cell("x"), "x"),
        (Choice("x", 1, 2), ("if", "x", 1, 2)),
        (Clamped(low=1, high=2), ("most", 1, ("least", 2, 0))),
        (Scaled(factor=3), ("*", 3, 0)),
        (ClampedCell(name="x", low=1, high=2), ("most", 1, ("least", 2, "x"))),
        (ScaledCell(name="x", factor=-3), ("*", -3, "x")),
        (Gauge(name="x", factor=2, low=0, high=3), ("most", 0, ("least", 3, ("*", 2, "x")))),
        (Lever(name="x", factor=2, low=0, high=3), ("*", 2, ("most", 0, ("least", 3, "x")))),
        (Table("t")[1], ("at", "t", 1)),
    )


class ExamplesTest(Case):
    def test_as_printed(self):
        x = Cell("x")
        found = [(x * 2 + 1).form(), str(Choice(x.below(2), ~x, Table("t")[x])), (x & -x) == (x & x)]
        self.same(found, [("+", ("*", "x", 2), 1), "( if ( < x 2 ) ( not x ) ( at t x ) )", False])
        self.same([one(name="x", factor=2, low=0, high=3)(CELLS, (0, 2)) for one in (Gauge, Lever)], [3, 4])


class FormsTest(Case):
    def test_forms_and_texts(self):
        for thing, form in some_objects():
            self.assertIsInstance(thing, Expression)
            self.same(thing.form(), form)
            self.same(str(thing), expression_text(form))

    def test_the_bases(self):
        for one in (Formed, Cell, Choice, Clamped, Scaled):
            self.assertEqual(one.__bases__, (Expression,))
        self.assertEqual(ClampedCell.__bases__, (Clamped, Cell))
        self.assertEqual(ScaledCell.__bases__, (Scaled, Cell))
        self.assertEqual(Gauge.__bases__, (Clamped, Scaled, Cell))
        self.assertEqual(Lever.__bases__, (Scaled, Clamped, Cell))
        self.assertFalse(issubclass(Table, Expression))

    def test_arguments_by_name(self):
        self.same(Formed(form=3).form(), 3)
        self.same(Cell(name="y").form(), "y")
        self.same(Choice(test="x", one=1, other=2).form(), ("if", "x", 1, 2))
        self.same(Table(name="t")["i"].form(), AT)
        self.same(X.equals(other=1).form(), ("=", "x", 1))
        self.same(X.below(other=1).form(), ("<", "x", 1))
        self.same(X.up_to(other=1).form(), ("<=", "x", 1))
        self.same(X.least(other=1).form(), ("least", "x", 1))
        self.same(X.most(other=1).form(), ("most", "x", 1))
        self.same(X.rest(n=2).form(), ("mod", "x", 2))
        self.same(X(cells=CELLS, state=(0, 2)), 2)
        self.same(Formed.read(text="x").form(), "x")

    def test_arguments_by_name_only(self):
        self.assertRaises(TypeError, Clamped, 1, 2)
        self.assertRaises(TypeError, Scaled, 2)
        self.assertRaises(TypeError, ClampedCell, "x", 1, 2)
        self.assertRaises(TypeError, Gauge, "x", 2, 0, 3)
        self.assertRaises(TypeError, Clamped, low=1)
        self.assertRaises(TypeError, Clamped, low=1, high=2, factor=3)
        self.assertRaises(TypeError, Gauge, name="x", low=1, high=2)
        self.assertRaises(TypeError, Expression, 1)

    def test_objects_where_an_expression_is_passed(self):
        self.same(Formed(Formed(X)).form(), "x")
        self.same(Formed(Gauge(name="x", factor=2, low=0, high=3)).form(), ("most", 0, ("least", 3, ("*", 2, "x"))))
        self.same(Choice(X, -X, Expression()).form(), ("if", "x", ("neg", "x"), 0))
        self.same(Choice(1, X, "x").form(), ("if", 1, "x", "x"))
        self.same(Table("t")[Cell("i") + 1].form(), ("at", "t", ("+", "i", 1)))
        self.same(Table("t")[AT].form(), ("at", "t", AT))

    def test_tables_are_not_iterated(self):
        self.assertRaises(TypeError, iter, Table("t"))
        self.assertRaises(TypeError, list, Table("t"))


class OperatorsTest(Case):
    def test_of_two(self):
        told = {
            "+": lambda p, q: p + q, "-": lambda p, q: p - q, "*": lambda p, q: p * q, "and": lambda p, q: p & q,
            "or": lambda p, q: p | q, "=": lambda p, q: p.equals(q), "<": lambda p, q: p.below(q),
            "<=": lambda p, q: p.up_to(q), "least": lambda p, q: p.least(q), "most": lambda p, q: p.most(q),
        }
        for op, made in told.items():
            for one, form in some_objects():
                for right in (1, -1, "y", AT, ("not", "y")):
                    self.same(made(one, right).form(), (op, form, right))
                    self.assertIs(type(made(one, right)), Formed)
                for other, right in some_objects():
                    self.same(made(one, other).form(), (op, form, right))

    def test_with_an_integer(self):
        for one, form in some_objects():
            self.same([(one // 3).form(), one.rest(4).form()], [("div", form, 3), ("mod", form, 4)])
            self.assertIs(type(one // 3), Formed)
            self.assertIs(type(one.rest(4)), Formed)

    def test_of_one(self):
        for one, form in some_objects():
            self.same([(~one).form(), (-one).form()], [("not", form), ("neg", form)])
            self.assertIs(type(~one), Formed)
            self.assertIs(type(-one), Formed)

    def test_operands_stay(self):
        one, other = Cell("x"), Formed(1)
        _ = one + other, one & other, -one, ~other, one.least(other), one == other
        self.same([one.form(), other.form()], ["x", 1])

    def test_no_operators_for_comparing(self):
        self.assertRaises(TypeError, lambda: X < 1)
        self.assertRaises(TypeError, lambda: X <= 1)
        self.assertRaises(TypeError, lambda: X > X)

    def test_the_left_side_is_an_object(self):
        for made in (lambda: 1 + X, lambda: 2 * X, lambda: 1 & X, lambda: "x" + X, lambda: 1 - X):
            self.assertRaises(TypeError, made)


class ValuesTest(Case):
    def test_calls(self):
        for thing, form in some_objects():
            if thing == Table("t")[1]:
                self.same([thing(TABLE, (0, 4, 5)), Table("t")["i"](TABLE, (0, 4, 5))], [5, 4])
            else:
                self.same([thing(CELLS, (1, n)) for n in range(4)], [value_in(CELLS, (1, n), form) for n in range(4)])

    def test_calls_that_fail(self):
        self.same(Table("t")["i"](TABLE, (2, 4, 5)), None)
        self.same((Cell("i") + Table("t")[-1])(TABLE, (2, 4, 5)), None)
        self.same((Expression() & Table("t")[2])(TABLE, (2, 4, 5)), 0)

    def test_bounding_and_multiplying(self):
        clamped = ClampedCell(name="x", low=1, high=2)
        self.same([clamped(CELLS, (0, n)) for n in range(4)], [1, 1, 2, 2])
        self.same([ScaledCell(name="x", factor=-2)(CELLS, (0, n)) for n in range(4)], [0, -2, -4, -6])
        self.same([Gauge(name="x", factor=2, low=1, high=5)(CELLS, (0, n)) for n in range(4)], [1, 2, 4, 5])
        self.same([Lever(name="x", factor=2, low=1, high=2)(CELLS, (0, n)) for n in range(4)], [2, 2, 4, 4])
        self.same([Clamped(low=-1, high=5)(CELLS, (0, 1)), Clamped(low=2, high=5)(CELLS, (0, 1))], [0, 2])
        self.same(Scaled(factor=7)(CELLS, (0, 1)), 0)


class CombinedTest(Case):
    """Other combinations wrap what comes next in the method resolution order, too."""

    def test_with_other_classes(self):
        class BoundedForm(Clamped, Formed):
            pass

        class BoundedChoice(Scaled, Clamped, Choice):
            pass

        class Both(Clamped, Scaled):
            pass

        self.same(BoundedForm(form=AT, low=0, high=1).form(), ("most", 0, ("least", 1, AT)))
        found = BoundedChoice(test="x", one=X, other=2, factor=3, low=0, high=1)
        self.same(found.form(), ("*", 3, ("most", 0, ("least", 1, ("if", "x", "x", 2)))))
        self.same(Both(low=0, high=1, factor=2).form(), ("most", 0, ("least", 1, ("*", 2, 0))))

    def test_a_class_of_ones_own(self):
        class Five(Expression):
            def form(self):
                return 5

        class BoundedFive(Clamped, Five):
            pass

        self.same(BoundedFive(low=1, high=2).form(), ("most", 1, ("least", 2, 5)))
        self.same((Five() + Five()).form(), ("+", 5, 5))

    def test_deeper_below(self):
        class Deeper(Gauge):
            pass

        deeper = Deeper(name="x", factor=2, low=0, high=3)
        self.same(deeper.form(), ("most", 0, ("least", 3, ("*", 2, "x"))))


class EqualityTest(Case):
    def test_by_forms_whatever_the_classes(self):
        things = [thing for thing, _ in some_objects()]
        things += [Formed(form) for _, form in some_objects()]
        for one in things:
            for other in things:
                self.assertIs(one == other, one.form() == other.form())
                self.assertIs(one != other, one.form() != other.form())

    def test_equal_forms(self):
        self.assertIs(Cell("x") == Formed("x"), True)
        self.assertIs(Expression() == Formed(0), True)
        self.assertIs(Choice(1, 2, 3) == Formed(("if", 1, 2, 3)), True)
        self.assertIs(Scaled(factor=2) == Formed(2) * 0, True)
        self.assertIs(Cell("x") != Formed("x"), False)
        self.assertIs(Gauge(name="x", factor=2, low=0, high=3) == Lever(name="x", factor=2, low=0, high=3), False)
        self.assertIs(X + 1 == X - 1, False)

    def test_with_values_that_are_no_objects(self):
        for thing, form in some_objects():
            for value in (form, None, 0, "x", (), Table("t"), str(thing), [form]):
                self.assertIs(thing == value, False)
                self.assertIs(thing != value, True)
                self.assertIs(value == thing, False)


class ReadTest(Case):
    def test_reading(self):
        for thing, form in some_objects():
            again = Formed.read(str(thing))
            self.assertIs(type(again), Formed)
            self.same(again.form(), form)
            self.assertEqual(again, thing)
        self.same(Formed.read("( at at at )").form(), ("at", "at", "at"))

    def test_wrong_texts(self):
        for text in ("", " ", "X", "( + x )", "1 2", "( + x 1 ) )", "01", "-0", "x\n", "( div x 0 )", "- 1", "(+ x 1)"):
            with self.assertRaises(InvalidText) as caught:
                expression_read(text)
            self.refuses(InvalidText, vars(caught.exception), Formed.read, text)
        self.refuses(InvalidText, {"line": 0, "field": 3}, Formed.read, "( + x )")
