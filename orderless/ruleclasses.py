"""Objects for rules, and programs that are put together of parts in any order."""

from orderless.errors import InvalidPaper
from orderless.expressionclasses import Expression, form_of
from orderless.fitting import fits_rule
from orderless.kinds import as_target
from orderless.programchecker import has_program_shape, lets_program
from orderless.programreadings import rule_read
from orderless.programtexts import rule_text
from orderless.rules import assigned, behind


class Rule:
    """An object for a rule."""

    def __init__(self, name, *assignments, guard=1):
        forms = [(_target_form(target), form_of(value)) for target, value in assignments]
        self._form = (name, form_of(guard), tuple(forms))

    @classmethod
    def setting(cls, name, *, guard=1, **values):
        """The object of a rule that assigns each value to the plain cell of its name."""
        assignments = [(target, values[target]) for target in sorted(values)]
        return cls(name, *assignments, guard=guard)

    @classmethod
    def read(cls, text):
        """The object of a written rule."""
        name, guard, assignments = rule_read(text)
        return cls(name, *assignments, guard=guard)

    def form(self):
        """The rule that the object stands for."""
        return self._form

    def fits(self, cells):
        """Whether the rule fits cells."""
        return fits_rule(cells, self._form)

    def assigned(self, cells, state):
        """What the rule assigns in a state, or None if it rests."""
        return assigned(cells, self._form, state)

    def __call__(self, cells, state):
        return behind(cells, self._form, state)

    def __contains__(self, x):
        return x in [_cell_name(target) for target, _ in self._form[2]]

    def __len__(self):
        return len(self._form[2])

    def __eq__(self, other):
        return isinstance(other, Rule) and self.form() == other.form()

    def __str__(self):
        return str(rule_text(self._form))


def cell_row(name, low, high, *, size=0, first=None, is_input=False, is_shown=False):
    """The cell row of these parts; first is low if it is not given."""
    return (name, size, low, high, is_input, is_shown, low if first is None else first)


def program_of(cells, *rules, pairs=(), starts=1):
    """The program of parts in any order; raises InvalidPaper if they do not make one."""
    forms = tuple([rule.form() if isinstance(rule, Rule) else rule for rule in rules])
    # What has not the shape of a program is refused before it is sorted: it may not be comparable.
    if not has_program_shape((cells, forms, pairs, form_of(starts))):
        raise InvalidPaper("shape", -1)
    program = (tuple(sorted(cells)), tuple(sorted(forms, key=_rule_name)), tuple(sorted(pairs)), form_of(starts))
    lets_program(program)
    return program


def _target_form(target):
    if isinstance(target, Expression):
        return as_target(target.form())
    if isinstance(target, tuple):
        return tuple([form_of(part) for part in target])
    return target


def _cell_name(target):
    return target if isinstance(target, str) else target[0]


def _rule_name(rule):
    return rule[0]
