"""[78] and the class Desk."""

from orderless.desk import Desk
from orderless.errors import InvalidCommand, InvalidStep, NothingToUndo
from orderless.steplines import log_lines, step_line
from orderless.workshops import Workshop
from tests.samples import CELLS, LONG, PAIRED, PROG, TABLES, Case, chance_of
from tests.slowlines import wrong_field
from tests.slowshop import SlowShop
from tests.steps import LINES, some_step

ONE_WORD = ("open", "decisions", "implied", "needless", "settled", "inputs", "result", "order", "undo", "count", "log", "table", "new")

# Strings that are no commands; some of them nearly are.
NO_COMMANDS = (
    "", " ", "-", "\n", "x", "Open", "OPEN", "opens", "ope", "none", "ok", "by ", " by", "by  add", "by add ", "by Add", "by add  see", "by add\n", "by\n",
    "by add,see", "by abcdefghi", "by 1", "by -", "bys", "byadd", "bars", "bars ", "bars x", "bars open", "bars bars unrule a", "bars unrule", "bars  unrule a",
    "bars unrule a b", "bars unrule a ", "bars -", "bars unrule a\n", "bars unrule a / unrule b", "bars by a", "try", "try ", "try x", "try /", "try / unrule a",
    "try unrule a /", "try unrule a / ", "try unrule a  / unrule b", "try unrule a /  unrule b", "try unrule a/unrule b", "try unrule a / x", "try open",
    "try unrule a // unrule b", "try unrule a / / unrule b", "try  unrule a", "try unrule a\nunrule b", "try try unrule a", "try - / -", "unrule", "unrule a b",
    " unrule a", "- unrule a", "-unrule a", "unrule a ", "unrule a\n", "\nunrule a", "unrule  a", "cell x 0 0 3 0", "inputs 1 2", "inputs ", "inputs -0", "inputs 01",
    f"inputs {LONG}0", "pair a", "pair a b c", "rule a when 1", "starts", "starts ( +", "decide a", "log 1", "count 0", "new workshop", "bars\nunrule a", "try\tunrule a",
    "step unrule a", "go", "unrule a / unrule b", "inputs 1;2", "by add see\n",
) + tuple(f"{word} x" for word in ONE_WORD) + tuple(f"{word} " for word in ONE_WORD) + tuple(f" {word}" for word in ONE_WORD) \
    + tuple(f"{word}\n" for word in ONE_WORD) + tuple(f"- {word}" for word in ONE_WORD) + tuple(f"-{word}" for word in ONE_WORD) \
    + tuple(f"{word} open" for word in ONE_WORD)


def desk_with(program, *decisions):
    desk = Desk()
    for line in log_lines(Workshop.of(program, *decisions).log()):
        desk.say(line)
    return desk


class DeskCase(Case):
    def says(self, desk, **answers):
        """The answers to commands of one word."""
        self.same({word: desk.say(word) for word in answers}, answers)


class DeskTest(DeskCase):
    def test_the_example(self):
        desk = Desk()
        found = [desk.say("cell x 0 0 3 0 both"), desk.say("rule add when 1 set x ( + x 1 )"), desk.say("inputs 2"), desk.say("result"), desk.say("table")]
        self.same(found, ["ok", "ok", "add", "3", "add  x=2  x=3"])

    def test_a_new_desk(self):
        desk = Desk()
        self.same(desk.counts(), (0, 0))
        self.says(desk, open="-", decisions="-", implied="-", needless="-", settled="yes", inputs="-", result="-", order="-", count="0", log="-", table="-")
        self.same([desk.say("by"), desk.say(text="inputs -"), desk.say("count")], ["0", "-", "1"])
        self.assertRaises(TypeError, Desk, 1)

    def test_each_line_of_a_step(self):
        desk = Desk()
        for line in ("cell x 0 0 3 0 input", "cell big 0 0 1 0 shown", "rule add when 1 set x ( + x 1 )", "rule see when ( < 2 x ) set big 1", "pair add see",
                     "unpair add see", "decide see add", "undecide see add", "starts ( < x 3 )"):
            self.same(desk.say(line), "ok")
        self.same([desk.say("inputs 1"), desk.say("inputs 1"), desk.say("inputs 3"), desk.say("inputs 2")], ["add,see", "-", "-", "add,see"])
        self.same([desk.say("unrule see"), desk.say("uncell big"), desk.say("count")], ["ok", "ok", "15"])
        self.same(desk.say("log").split(" / ")[-3:], ["inputs 2", "unrule see", "uncell big"])

    def test_barred_steps(self):
        desk = desk_with(PAIRED)
        for line, step, word in (("unrule x", ("unrule", "x"), "name"), ("inputs 4", ("inputs", (4,)), "range"), ("inputs -", ("inputs", ()), "many"),
                                 ("inputs 1,2", ("inputs", (1, 2)), "many"), ("pair see add", ("pair", "see", "add"), "circle"),
                                 ("decide see add", ("decide", "see", "add"), "ordered"), ("starts big", ("starts", "big"), "cells"),
                                 ("cell y 0 5 3 0 both", ("cell", ("y", 0, 5, 3, True, True, 0)), "shape"), ("uncell x", ("uncell", "x"), "used"),
                                 ("unpair see add", ("unpair", "see", "add"), "there"), ("cell y 9 0 1 0 both", ("cell", ("y", 9, 0, 1, True, True, 0)), "full")):
            self.refuses(InvalidStep, {"step": step, "reason": word}, desk.say, line)
            self.same([desk.say(f"bars {line}"), desk.say("count")], [word, "6"])

    def test_bars(self):
        desk = desk_with(PROG)
        for line, answer in (("unrule add", "-"), ("inputs 3", "-"), ("inputs 4", "range"), ("inputs -", "many"), ("cell y 0 0 0 1 hidden", "shape"),
                             ("decide add see", "-"), ("rule bars when 1 set x 1", "-"), ("unrule bars", "name"), ("starts 0", "-")):
            self.same(desk.say(f"bars {line}"), answer)
        self.same(desk.say("count"), "5")

    def test_bars_for_each_line_that_can_be_read(self):
        desk, workshop = Desk(), Workshop()
        for step, line in LINES:
            self.same(desk.say(f"bars {line}"), workshop.barred(step) or "-")

    def test_try(self):
        desk = desk_with(PROG)
        before = [desk.say(word) for word in ONE_WORD[:8]], desk.say("log")
        for text, answer in (("try starts 1", "add:see,add:twice"), ("try decide add see", "add:twice"), ("try decide see add", "-"),
                             ("try decide add see / decide add twice", "-"), ("try decide add see / undecide add see", "add:see,add:twice"),
                             ("try unrule see / uncell big / starts ( < x 2 )", "-"), ("try inputs 3", "add:see,add:twice")):
            self.same(desk.say(text), answer)
        for text, step, word in (("try unrule x", ("unrule", "x"), "name"), ("try unrule add / unrule add / unrule y", ("unrule", "add"), "name"),
                                 ("try cell y 0 5 3 0 both", ("cell", ("y", 0, 5, 3, True, True, 0)), "shape"),
                                 ("try unrule see / inputs 9", ("inputs", (9,)), "range")):
            self.refuses(InvalidStep, {"step": step, "reason": word}, desk.say, text)
        # All lines are read before the first step is done.
        self.refuses(InvalidCommand, {"text": "try unrule x / unrule"}, desk.say, "try unrule x / unrule")
        self.same(([desk.say(word) for word in ONE_WORD[:8]], desk.say("log")), before)

    def test_by(self):
        desk = desk_with(PROG)
        for text, names in (("by", ()), ("by add", ("add",)), ("by add see twice x", ("add", "see", "twice", "x")), ("by add add see", ("add", "add", "see")),
                            ("by by", ("by",)), ("by x y z", ("x", "y", "z"))):
            self.refuses(InvalidStep, {"step": ("by", names), "reason": "order"}, desk.say, text)
        self.same([desk.say("by add see twice"), desk.say("by add see twice"), desk.say("count")], ["2", "0", "7"])
        self.says(desk, decisions="add:see,add:twice", open="-", settled="yes", order="add,see,twice")
        self.refuses(InvalidStep, {"step": ("by", ("twice", "see", "add")), "reason": "order"}, desk.say, "by twice see add")

    def test_questions(self):
        desk = desk_with(PROG)
        self.says(desk, open="add:see,add:twice", decisions="-", implied="-", needless="-", settled="no", inputs="0", result="none", order="add,see,twice", count="5")
        desk.say("decide see add")
        self.says(desk, open="-", decisions="see:add", implied="-", needless="-", settled="yes", inputs="0", result="0", order="see,add,twice", count="6",
                  table="see    x=0  rests / add    x=0  x=1 / twice  x=1  x=2")
        desk.say("decide twice add")
        self.says(desk, decisions="see:add,twice:add", needless="twice:add", implied="-")
        desk.say("pair see add")
        self.says(desk, implied="see:add", needless="twice:add")
        desk.say("starts 0")
        self.says(desk, result="none", order="none", table="-", settled="yes", open="-")

    def test_values(self):
        desk = Desk()
        for line in ("cell a 0 -5 5 -5 both", "cell b 2 0 1 0 input", "cell c 2 -7 -6 -6 shown"):
            desk.say(line)
        self.says(desk, inputs="-5,0,0", result="-5,-6,-6", order="-", table="-")
        self.same([desk.say("inputs 3,1,0"), desk.say("inputs"), desk.say("result")], ["-", "3,1,0", "3,-6,-6"])
        self.says(desk_with((CELLS[1:], (), (), 1)), result="-", inputs="0")
        self.says(desk_with((CELLS[1:], (), (), 0)), result="none", order="none")

    def test_the_table_with_tables_of_cells(self):
        self.says(desk_with(TABLES), table="move  i=0,t.0=1  t.0=2 / same  i=0        rests")

    def test_undo(self):
        desk = desk_with(PAIRED, ("add", "twice"))
        lines = desk.say("log").split(" / ")
        self.same(len(lines), 7)
        for k in range(7)[::-1]:
            self.same([desk.say("undo"), desk.say("count"), desk.say("log")], [lines[k], str(k), " / ".join(lines[:k]) or "-"])
        for _ in range(2):
            self.refuses(NothingToUndo, {"steps": 0}, desk.say, "undo")

    def test_undo_each_line(self):
        for step, line in LINES:
            desk = Desk()
            if Workshop().barred(step) is None:
                self.same([desk.say(line), desk.say("undo"), desk.say("log")], ["-" if step[0] == "inputs" else "ok", line, "-"])

    def test_new(self):
        desk = desk_with(PROG)
        self.same([desk.say("new"), desk.counts()], ["ok", (6, 6)])
        self.says(desk, count="0", log="-", open="-", result="-")
        self.same([desk.say("cell x 0 0 3 0 both"), desk.say("new"), desk.say("new"), desk.say("count"), desk.counts()], ["ok", "ok", "ok", "0", (14, 14)])
        self.refuses(NothingToUndo, {"steps": 0}, desk.say, "undo")

    def test_strings_that_are_no_commands(self):
        for desk in (Desk(), desk_with(PROG)):
            before = desk.say("log")
            for text in NO_COMMANDS:
                self.refuses(InvalidCommand, {"text": text}, desk.say, text)
            self.same(desk.say("log"), before)

    def test_no_command_comes_before_all_other_errors(self):
        desk = Desk()
        for text in ("undo x", "by x ", "bars unrule", "try unrule x / unrule", "try unrule / unrule x", "unrule x y", "by x Y"):
            self.refuses(InvalidCommand, {"text": text}, desk.say, text)

    def test_counts(self):
        desk = Desk()
        many = 0
        for text in ("new", "open", "x", "undo", "starts 0", "unrule a", "by", "by a", "bars starts 0", "bars x", "try starts 1", "try unrule a", "try", "", "new",
                     "table", "inputs -", "inputs 1", "log"):
            self.same(desk.counts(), (many, many))
            try:
                desk.say(text)
            except (InvalidCommand, InvalidStep, NothingToUndo):
                pass
            many += 1
        self.same([desk.counts(), type(desk.counts())], [(19, 19), tuple])
        self.same(desk.counts(), (19, 19))

    def test_two_desks(self):
        one, other = Desk(), Desk()
        one.say("starts 0")
        self.same([one.say("count"), other.say("count"), one.counts(), other.counts()], ["1", "0", (2, 2), (1, 1)])

    def test_against_a_second_workshop(self):
        for seed in range(15):
            chance = chance_of(seed)
            desk, log, many = desk_with(PROG), list(Workshop.of(PROG).log()), 5
            for _ in range(12):
                slow = SlowShop(log)
                told = slow.told()
                step = some_step(chance, told["program"], told["decisions"], told["inputs"])
                if step[0] == "rule" and len(slow.rules) > 3:
                    continue
                line, word = step_line(step), slow.bars(step)
                if wrong_field(line) is not None:
                    continue
                self.same(desk.say(f"bars {line}"), word or "-")
                if word is None:
                    names = slow.names_done_again(step[1]) if step[0] == "inputs" else None
                    trial = SlowShop(log + [step]).told()["open_pairs"]
                    self.same(desk.say(f"try {line}"), ",".join(f"{one}:{other}" for one, other in trial) or "-")
                    self.same(desk.say(line), "ok" if names is None else ",".join(names) or "-")
                    log.append(step)
                    many += 1
                else:
                    self.refuses(InvalidStep, {"step": step, "reason": word}, desk.say, line)
                    self.refuses(InvalidStep, {"step": step, "reason": word}, desk.say, f"try {line}")
                told = SlowShop(log).told()
                pairs = {name: ",".join(f"{one}:{other}" for one, other in told[key]) or "-"
                         for name, key in (("open", "open_pairs"), ("decisions", "decisions"), ("implied", "implied"), ("needless", "needless"))}
                record, result = told["record"], told["result"]
                self.says(desk, **pairs, settled="yes" if told["is_settled"] else "no", inputs=",".join(map(str, told["inputs"])) or "-",
                          result="none" if result is None else ",".join(map(str, result)) or "-",
                          order="none" if record is None else ",".join(row[0] for row in record[1]) or "-", count=str(many), log=told["str"])
