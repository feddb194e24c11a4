"""A workshop: a program with decisions and inputs that is changed step by step."""

from orderless.contents import decided_program, first_contents, open_pairs_in
from orderless.contents import implied_in, is_settled_in, needless_in, result_in
from orderless.errors import InvalidInput, InvalidStep, NothingToUndo
from orderless.linereadings import read_log
from orderless.lookup import rule_named
from orderless.orders import is_legal, rule_names
from orderless.rowlines import row_lines
from orderless.stepbars import barring_word
from orderless.stepeffects import contents_after
from orderless.steplines import joined, log_lines


class Workshop:
    """Cells, rules, pairs and starts, with decisions, inputs, and the log of the steps that led to them.

    What it has is kept as contents, which never change: those before the first step and those behind each step. So
    trials need no copy, and undoing takes the contents from before the step.
    """

    CELLS = 10
    STATES = 256
    RULES = 6

    def __init__(self):
        self._steps = []
        self._contents = [first_contents()]
        self._started = 0
        self._finished = 0

    @classmethod
    def of(cls, program, *decisions):
        """The workshop with a program and decisions."""
        cells, rules, pairs, starts = program
        steps = [("cell", row) for row in cells] + [("rule", rule) for rule in rules]
        steps = steps + [("pair",) + pair for pair in pairs]
        steps = steps + ([] if starts == 1 else [("starts", starts)])
        return cls.after(steps + [("decide",) + decision for decision in decisions])

    @classmethod
    def read(cls, text):
        """The workshop after the steps of the lines of a string."""
        return cls.after(read_log([] if text == "" else text.split("\n")))

    @classmethod
    def after(cls, steps):
        """The workshop after steps, which are not counted."""
        workshop = cls()
        for step in steps:
            workshop.take_step(step)
        return workshop

    @property
    def program(self):
        """The program."""
        return self._now()[0]

    @property
    def decided(self):
        """The program with the decisions as pairs, too."""
        return decided_program(self._now())

    @property
    def decisions(self):
        """The ascending tuple of the decisions."""
        return self._now()[1]

    @property
    def inputs(self):
        """The tuple of the values of the input cells."""
        return self._now()[2]

    @inputs.setter
    def inputs(self, value):
        self.set_inputs(value)

    @property
    def open_pairs(self):
        """The open pairs of the decided program, ascending."""
        return open_pairs_in(self._now())

    @property
    def is_settled(self):
        """Whether no pair is open."""
        return is_settled_in(self._now())

    @property
    def result(self):
        """The result for the inputs, or None if it is not settled or they are no start."""
        return result_in(self._now())

    @property
    def record(self):
        """The record of the least legal order for the inputs, or None if they are no start."""
        return self._now()[3]

    def __getitem__(self, at):
        return rule_named(self._now()[0], at)

    def __iter__(self):
        raise TypeError("a workshop is not iterated over: its program has the rules")

    def __contains__(self, x):
        return x in rule_names(self._now()[0])

    def __len__(self):
        return len(self._now()[0][1])

    def __eq__(self, other):
        # Steps are accepted by kind only, so equal logs have equal kinds of all elements.
        return isinstance(other, Workshop) and self.log() == other.log()

    def __ne__(self, other):
        return not (isinstance(other, Workshop) and self.log() == other.log())

    def __str__(self):
        return str(joined(log_lines(self.log()), " / "))

    def __call__(self, step):
        return self.go(step)

    def go(self, step):
        """Does a step; returns the names of the rules that were done again, if it sets inputs."""
        self._started += 1
        try:
            return self.take_step(step)
        finally:
            self._finished = self._started

    def add_cell(self, row):
        """Adds a cell row."""
        self.go(("cell", row))

    def remove_cell(self, name):
        """Removes a cell row."""
        self.go(("uncell", name))

    def add_rule(self, rule):
        """Adds a rule."""
        self.go(("rule", rule))

    def remove_rule(self, name):
        """Removes a rule, with all pairs and decisions about it."""
        self.go(("unrule", name))

    def add_pair(self, one, other):
        """Adds a pair."""
        self.go(("pair", one, other))

    def remove_pair(self, one, other):
        """Removes a pair."""
        self.go(("unpair", one, other))

    def set_starts(self, expression):
        """Sets the expression for the starts."""
        self.go(("starts", expression))

    def decide(self, one, other):
        """Adds a decision."""
        self.go(("decide", one, other))

    def undecide(self, one, other):
        """Removes a decision."""
        self.go(("undecide", one, other))

    def set_inputs(self, value):
        """Sets the inputs; returns the names of the rules that were done again."""
        self._started += 1
        try:
            step = ("inputs", value)
            if self.barred(step) is not None:
                raise InvalidInput(value)
            return self.take_step(step)
        finally:
            self._finished = self._started

    def barred(self, step):
        """The word that bars a step, or None."""
        return self._word_in(self._now(), step)

    def implied(self):
        """The decisions that follow from the pairs and the other decisions."""
        return implied_in(self._now())

    def needless(self):
        """The decisions that are not implied, and whose pairs are not open without them."""
        return needless_in(self._now())

    def choices(self):
        """A generator of the two steps that decide each open pair."""
        for one, other in self.open_pairs:
            yield ("decide", one, other)
            yield ("decide", other, one)

    def decide_by(self, *names):
        """Decides open pairs as they are in a legal order until none is left; returns the number of decisions."""
        self._started += 1
        try:
            if not is_legal(self.decided, names):
                raise InvalidStep(("by", names), "order")
            return self._decide_as_in(names)
        finally:
            self._finished = self._started

    def do_all(self, *steps, keep=False):
        """Does steps in order; returns how many. If one is barred, those before it are kept only if asked for."""
        self._started += 1
        before = len(self._steps)
        try:
            for step in steps:
                self.take_step(step)
            return len(steps)
        except InvalidStep:
            if not keep:
                self._go_back_to(before)
            raise
        finally:
            self._finished = self._started

    def tried(self, *steps):
        """The pair (open pairs, result) after steps, which are not done."""
        contents = self._now()
        for step in steps:
            contents, _ = self._behind(contents, step)
        return (open_pairs_in(contents), result_in(contents))

    def undo(self):
        """Removes the last step of the log and its effect; returns this step."""
        self._started += 1
        try:
            if self._steps == []:
                raise NothingToUndo(0)
            step = self._steps[-1]
            self._go_back_to(len(self._steps) - 1)
            return step
        finally:
            self._finished = self._started

    def log(self):
        """The tuple of the steps."""
        return tuple(self._steps)

    def counts(self):
        """The numbers of started and of finished operations."""
        return (self._started, self._finished)

    def table(self):
        """A list with a string for each row of the record."""
        program, _, _, record = self._now()
        return [] if record is None else row_lines(program[0], record)

    def take_step(self, step):
        """Does a step without counting it."""
        contents, names = self._behind(self._now(), step)
        self._steps.append(step)
        self._contents.append(contents)
        return names

    def _now(self):
        """The contents behind the last step."""
        return self._contents[-1]

    def _word_in(self, contents, step):
        return barring_word(contents, step, (self.CELLS, self.STATES, self.RULES))

    def _behind(self, contents, step):
        """The contents behind a step, and what contents_after tells with them; raises InvalidStep if it is barred."""
        word = self._word_in(contents, step)
        if word is not None:
            raise InvalidStep(step, word)
        return contents_after(contents, step)

    def _decide_as_in(self, order):
        many = 0
        left = self.open_pairs
        while left != ():
            one, other = left[0]
            pair = (one, other) if order.index(one) < order.index(other) else (other, one)
            self.take_step(("decide",) + pair)
            many += 1
            left = self.open_pairs
        return many

    def _go_back_to(self, many):
        """Takes back all steps but the first ones, so many."""
        self._steps = self._steps[:many]
        self._contents = self._contents[:many + 1]
