"""[70], [74], (L8) of [9] and the section replaying."""

from orderless.errors import InvalidStep
from orderless.replaying import is_log, replayed
from orderless.workshops import Workshop
from tests.samples import ADD, CELLS, ODD_VALUES, PROG, SEE, Case, changed_once
from tests.slowshop import is_step, told_by
from tests.steps import LINES, NO_STEPS

LOG = (("cell", CELLS[0]), ("cell", CELLS[1]), ("rule", ADD), ("rule", SEE), ("pair", "add", "see"), ("unpair", "add", "see"),
       ("decide", "see", "add"), ("starts", ("<", "x", 3)), ("inputs", (2,)), ("undecide", "see", "add"), ("unrule", "see"), ("uncell", "big"))


class IsLogTest(Case):
    def test_logs(self):
        steps = tuple(step for step, _ in LINES)
        self.same([is_log(()), is_log(LOG), is_log(steps), is_log(thing=steps * 3)], [True] * 4)
        for step in steps:
            self.assertIs(is_log((step,)), True)
        # What bars them by other words than shape does not matter.
        self.assertIs(is_log((("unrule", "none"), ("inputs", (1, 2, 3)), ("pair", "a", "a"))), True)

    def test_steps_that_are_none(self):
        for thing in NO_STEPS:
            self.assertIs(is_log((thing,)), False, thing)
            self.assertIs(is_log(LOG + (thing,)), False)
            self.assertIs(is_log((thing,) + LOG), False)

    def test_values_of_other_kinds(self):
        for thing in ODD_VALUES:
            self.assertIs(is_log(thing), thing == ())
        for thing in (list(LOG), LOG[0], {}, "unrule a", (LOG,), Workshop.of(PROG), 0):
            self.assertIs(is_log(thing), False)

    def test_any_part_changed(self):
        for thing in changed_once(LOG):
            self.assertIs(is_log(thing), type(thing) is tuple and all(map(is_step, thing)))


class ReplayedTest(Case):
    def test_replayed(self):
        before = repr(LOG)
        for many in range(len(LOG) + 1):
            workshop = replayed(LOG[:many])
            other = Workshop()
            other.do_all(*LOG[:many])
            self.same([type(workshop), workshop.log(), workshop.counts(), workshop == other], [Workshop, LOG[:many], (0, 0), True])
            self.same(told_by(workshop), told_by(other))
        self.same(replayed(log=LOG) == workshop, True)
        self.assertEqual(repr(LOG), before)

    def test_each_one_is_new(self):
        one, other = replayed(LOG), replayed(LOG)
        one.undo()
        self.same([len(other.log()), one == other], [len(LOG), False])

    def test_barred_steps(self):
        for k in range(len(LOG) + 1):
            log = LOG[:k] + (("unrule", "none"),) + LOG[k:] + (("unrule", "other"),)
            self.refuses(InvalidStep, {"step": ("unrule", "none"), "reason": "name"}, replayed, log)
        self.refuses(InvalidStep, {"step": LOG[2], "reason": "cells"}, replayed, LOG[2:])
        self.refuses(InvalidStep, {"step": LOG[0], "reason": "name"}, replayed, LOG[:1] * 2)
