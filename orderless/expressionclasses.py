"""Objects for expressions, which are put together by operators and methods."""

from orderless.expressions import value_in
from orderless.programreadings import expression_read
from orderless.programtexts import expression_text


def form_of(thing):
    """The form of an object, or an expression as it is."""
    if isinstance(thing, Expression):
        return thing.form()
    return thing


class Expression:
    """The base class of objects that have a form, an expression. Its own form is 0."""

    def __init__(self):
        """Takes nothing: here end the arguments that combined classes pass on by name."""

    def form(self):
        """The expression that the object stands for."""
        return 0

    def __call__(self, cells, state):
        return value_in(cells, state, self.form())

    def __add__(self, other):
        return Formed(("+", self.form(), form_of(other)))

    def __sub__(self, other):
        return Formed(("-", self.form(), form_of(other)))

    def __mul__(self, other):
        return Formed(("*", self.form(), form_of(other)))

    def __floordiv__(self, other):
        return Formed(("div", self.form(), form_of(other)))

    def __and__(self, other):
        return Formed(("and", self.form(), form_of(other)))

    def __or__(self, other):
        return Formed(("or", self.form(), form_of(other)))

    def __invert__(self):
        return Formed(("not", self.form()))

    def __neg__(self):
        return Formed(("neg", self.form()))

    def equals(self, other):
        """The object for "="."""
        return Formed(("=", self.form(), form_of(other)))

    def below(self, other):
        """The object for "<"."""
        return Formed(("<", self.form(), form_of(other)))

    def up_to(self, other):
        """The object for "<="."""
        return Formed(("<=", self.form(), form_of(other)))

    def least(self, other):
        """The object for the least of two."""
        return Formed(("least", self.form(), form_of(other)))

    def most(self, other):
        """The object for the greatest of two."""
        return Formed(("most", self.form(), form_of(other)))

    def rest(self, n):
        """The object for what remains of a division by an integer from 1 on."""
        return Formed(("mod", self.form(), form_of(n)))

    def __eq__(self, other):
        return isinstance(other, Expression) and self.form() == other.form()

    def __str__(self):
        return str(expression_text(self.form()))


class Formed(Expression):
    """Any expression."""

    def __init__(self, form):
        self._expression = form_of(form)

    @classmethod
    def read(cls, text):
        """The object of a written expression."""
        return cls(expression_read(text))

    def form(self):
        """The expression."""
        return self._expression


class Cell(Expression):
    """A plain cell."""

    def __init__(self, name):
        self._name = name

    def form(self):
        """The name of the cell."""
        return self._name


class Choice(Expression):
    """One of two expressions, chosen by a test."""

    def __init__(self, test, one, other):
        self._choice = ("if", form_of(test), form_of(one), form_of(other))

    def form(self):
        """The expression with "if"."""
        return self._choice


class Clamped(Expression):
    """Bounds the form of the class that comes after it in the method resolution order."""

    def __init__(self, *, low, high, **more):
        super().__init__(**more)
        self._low = low
        self._high = high

    def form(self):
        """The bounded form."""
        return ("most", self._low, ("least", self._high, super().form()))


class Scaled(Expression):
    """Multiplies the form of the class that comes after it in the method resolution order."""

    def __init__(self, *, factor, **more):
        super().__init__(**more)
        self._factor = factor

    def form(self):
        """The multiplied form."""
        return ("*", self._factor, super().form())


class ClampedCell(Clamped, Cell):
    """A cell, bounded."""


class ScaledCell(Scaled, Cell):
    """A cell, multiplied."""


class Gauge(Clamped, Scaled, Cell):
    """A cell that is multiplied and then bounded."""


class Lever(Scaled, Clamped, Cell):
    """A cell that is bounded and then multiplied."""


class Table:
    """A table, whose elements are objects for expressions."""

    def __init__(self, name):
        self._name = name

    def __getitem__(self, at):
        return Formed(("at", self._name, form_of(at)))

    def __iter__(self):
        raise TypeError("a table has no end that iterating would find")
