"""[20], [76] and the section steplines."""

from orderless.steplines import log_lines, step_line
from tests.samples import ADD, LONG, MOVE, SEE, Case
from tests.steps import LINES


class StepLineTest(Case):
    def test_the_example(self):
        self.same(step_line(("rule", ADD)), "rule add when 1 set x ( + x 1 )")

    def test_by_name(self):
        self.same([step_line(step=("unrule", "a")), log_lines(log=(("unrule", "a"),))], ["unrule a", ["unrule a"]])

    def test_each_form(self):
        for step, line in LINES:
            before = repr(step)
            self.same(step_line(step), line)
            self.assertEqual(repr(step), before)

    def test_rules_and_expressions(self):
        self.same(step_line(("rule", MOVE)), "rule move when ( < i 2 ) set ( at t i ) ( + ( at t i ) 1 )")
        self.same(step_line(("rule", SEE)), "rule see when ( < 2 x ) set big 1")
        self.same(step_line(("starts", ("if", ("not", "a"), ("div", "b", 2), -1))), "starts ( if ( not a ) ( div b 2 ) -1 )")

    def test_values(self):
        for values, word in (((), "-"), ((0,), "0"), ((-1,), "-1"), ((1, 2), "1,2"), ((0, -3, 0), "0,-3,0"), ((LONG, -LONG), f"{LONG},-{LONG}")):
            self.same(step_line(("inputs", values)), f"inputs {word}")

    def test_logs(self):
        self.same(log_lines(()), [])
        log = tuple(step for step, _ in LINES)
        found = log_lines(log)
        self.same(found, [line for _, line in LINES])
        found.clear()
        self.same(log_lines(log), [line for _, line in LINES])
