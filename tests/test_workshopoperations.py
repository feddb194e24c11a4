"""[73], [74], (L7) and (L8) of [9]: inputs, deciding by an order, trials, counts, equality, undoing, and what is shown."""

from itertools import permutations

from orderless.errors import InvalidInput, InvalidStep, InvalidText, NothingToUndo, UnknownRule
from orderless.replaying import replayed
from orderless.running import result_of
from orderless.states import starts_of
from orderless.workshops import Workshop
from tests.samples import (
    ADD, CELLS, CHAIN, LONG, MOVE, NINE, NOTHING, ODD_VALUES, PAIRED, PROG, SAME, SEE, TABLE, TABLES, TWICE, Case, chance_of, free_rules,
    some_programs,
)
from tests.slowly import Slowly
from tests.slowshop import SlowShop, told_by
from tests.steps import LINES, NO_STEPS, some_step

BIG, X = CELLS


class InputsTest(Case):
    def test_the_examples(self):
        workshop = Workshop.of(PROG)
        found = [workshop.open_pairs, workshop.is_settled, workshop.decide_by("add", "see", "twice"), workshop.decisions, workshop.result]
        self.same(found, [(("add", "see"), ("add", "twice")), False, 2, (("add", "see"), ("add", "twice")), (0,)])
        found = [workshop.set_inputs((2,)), workshop.result, workshop.barred(("decide", "see", "add")), workshop.needless()]
        self.same(found, [("add", "see", "twice"), (1,), "circle", ()])

    def test_each_way_to_set_them(self):
        for values in ((2,), (0,), (3,)):
            shops = [Workshop.of(PROG, ("add", "see"), ("add", "twice")) for _ in range(4)]
            names = [shops[0].set_inputs(values), shops[1].go(("inputs", values)), shops[2](("inputs", values))]
            shops[3].inputs = values
            self.same(names, [SlowShop(list(shops[0].log()[:-1])).names_done_again(values)] * 3)
            for workshop in shops:
                self.same([workshop.inputs, workshop.counts(), workshop.log()[-1]], [values, (1, 1), ("inputs", values)])
                self.same(told_by(workshop), told_by(shops[0]))
                self.assertTrue(workshop == shops[0])

    def test_inputs_that_are_barred(self):
        for program in (PROG, NOTHING, TABLES):
            workshop = Workshop.of(program)
            before = told_by(workshop)
            for value in ODD_VALUES + ((0, 0, 0, 0), (LONG,), [0], (-1,), (9,), (True,)):
                if repr(value) == ("()" if program == NOTHING else "(1,)"):
                    continue
                self.refuses(InvalidInput, {"value": value}, workshop.set_inputs, value)
                with self.assertRaises(InvalidInput) as caught:
                    workshop.inputs = value
                self.assertIs(caught.exception.value, value)
                word = workshop.barred(("inputs", value))
                self.assertIn(word, ("shape", "many", "range"))
                for function in (workshop.go, workshop):
                    self.refuses(InvalidStep, {"step": ("inputs", value), "reason": word}, function, ("inputs", value))
            self.same(told_by(workshop), before)

    def test_the_names_that_are_done_again(self):
        workshop = Workshop.of(PROG)
        self.same([workshop.set_inputs((x,)) for x in (0, 1, 3, 3, 2)], [(), ("add", "see", "twice"), ("add", "see", "twice"), (), ("add",)])
        workshop.set_starts(("<", 0, "x"))
        # There is no record now; then there was none before; then there was one.
        self.same([workshop.set_inputs((x,)) for x in (0, 0, 1, 1, 2)], [(), (), ("add", "see", "twice"), (), ("add", "see", "twice")])
        workshop.set_starts(0)
        self.same([workshop.set_inputs((1,)), workshop.record], [(), None])
        self.same([Workshop().set_inputs(()), Workshop.of((CELLS, (), (), 1)).set_inputs((1,))], [(), ()])

    def test_in_the_order_of_the_new_record(self):
        workshop = Workshop.of((NINE, free_rules(3), (("c", "a"), ("a", "b")), 1))
        # From 0 and from 1 on there is 1 behind c and a, so b has nothing to do.
        self.same(workshop.set_inputs((1,)), ("c", "a"))
        workshop.set_starts(("<", "x", 5))
        workshop.set_inputs((6,))
        self.same(workshop.set_inputs((1,)), ("c", "a", "b"))

    def test_the_record_after_edits(self):
        """The record that is made again is that of the program now."""
        workshop = Workshop.of(PROG)
        workshop.set_inputs((1,))
        workshop.decide("see", "add")
        self.same(workshop.set_inputs((2,)), ("see", "add", "twice"))
        workshop.remove_rule("add")
        self.same([workshop.set_inputs((2,)), workshop.set_inputs((3,)), workshop.result], [(), ("see", "twice"), (1,)])


class DecideByTest(Case):
    def test_each_legal_order(self):
        for program in [PROG, PAIRED, CHAIN, NOTHING, TABLES, (NINE, free_rules(4), (("a", "b"),), 1)] + some_programs(71, 25):
            slowly = Slowly(program)
            for order in slowly.orders(slowly.names):
                workshop = Workshop.of(program)
                before = workshop.log()
                many = workshop.decide_by(*order)
                self.same(workshop.log(), before + self.steps(program, order))
                self.same([many, workshop.counts(), workshop.is_settled, len(workshop.decisions)], [len(workshop.log()) - len(before), (1, 1), True, many])
                for start in list(starts_of(program))[:3]:
                    self.same({result_of(program, start, order)}, set(Slowly(workshop.decided).results(start)))
                self.same([workshop.decide_by(*order), workshop.counts()], [0, (2, 2)])

    def steps(self, program, order):
        """The first open pair is decided as in the order, as long as there is one."""
        steps = ()
        while True:
            pairs = program[2] + tuple(step[1:] for step in steps)
            open_pairs = Slowly(program[:2] + (tuple(sorted(set(pairs))), program[3])).open_pairs()
            if not open_pairs:
                return steps
            steps += (("decide",) + tuple(sorted(open_pairs[0], key=order.index)),)

    def test_values_that_are_no_legal_orders(self):
        workshop = Workshop.of(PAIRED, ("twice", "add"))
        before = told_by(workshop)
        for names in ((), ("add",), ("add", "see", "twice"), ("twice", "see", "add"), ("twice", "add", "add"), ("twice", "add", "see", "see"),
                      ("twice", "add", "other"), (("twice", "add", "see"),), (["twice", "add", "see"],), (None, True, 1), ("twice", "add", None),
                      ("twice", "add", ["see"]), ("Twice", "add", "see"), ("", "", "")):
            self.refuses(InvalidStep, {"step": ("by", names), "reason": "order"}, workshop.decide_by, *names)
        self.same(told_by(workshop), before)
        self.same([workshop.decide_by("twice", "add", "see"), workshop.counts()], [0, (15, 15)])

    def test_every_order_of_the_names(self):
        for names in permutations(("add", "see", "twice")):
            workshop = Workshop.of(CHAIN)
            if names == ("add", "twice", "see"):
                self.same(workshop.decide_by(*names), 0)
            else:
                self.refuses(InvalidStep, {"step": ("by", names), "reason": "order"}, workshop.decide_by, *names)

    def test_undoing_one_decision_after_the_other(self):
        workshop = Workshop.of(PROG)
        workshop.decide_by("twice", "add", "see")
        self.same([workshop.undo(), workshop.open_pairs, workshop.undo(), len(workshop.log())],
                  [("decide", "twice", "add"), (("add", "twice"),), ("decide", "add", "see"), 5])

    def test_choices(self):
        workshop = Workshop.of(PROG)
        self.same(list(workshop.choices()), [("decide", "add", "see"), ("decide", "see", "add"), ("decide", "add", "twice"), ("decide", "twice", "add")])
        choices = workshop.choices()
        self.same([next(choices), iter(choices) is choices, len(list(choices))], [("decide", "add", "see"), True, 3])
        for step in list(workshop.choices()):
            self.same([workshop.barred(step), workshop.tried(step)[0]], [None, Workshop.of(PROG, step[1:]).open_pairs])
        self.same(list(Workshop().choices()), [])


class TrialsTest(Case):
    def untouched(self, workshop, function):
        """A call that leaves no trace."""
        before = repr((told_by(workshop), workshop.counts(), workshop.table()))
        found = function()
        self.assertEqual(repr((told_by(workshop), workshop.counts(), workshop.table())), before)
        return found

    def test_what_is_told(self):
        workshop = Workshop.of(PROG)
        workshop.set_inputs((2,))
        for steps, right in (((), ((("add", "see"), ("add", "twice")), None)), ((("decide", "see", "add"),), ((), (0,))),
                             ((("decide", "add", "see"), ("decide", "twice", "add")), ((), (1,))),
                             ((("unrule", "add"), ("inputs", (3,))), ((), (1,))), ((("unrule", "see"), ("starts", ("<", "x", 2))), ((), None)),
                             ((("unrule", "see"), ("uncell", "big")), ((), ()))):
            self.same(self.untouched(workshop, lambda: workshop.tried(*steps)), right)

    def test_a_trial_of_which_a_step_is_barred(self):
        workshop = Workshop.of(PROG)
        workshop.decide("add", "see")
        for steps, bad, word in (((("decide", "add", "see"),), 0, "there"), ((("unrule", "add"), ("unrule", "add"), None), 1, "name"),
                                 ((None, ("unrule", "add")), 0, "shape"), ((("inputs", (1,)), ("inputs", (2, 3))), 1, "many"),
                                 ((("unrule", "add"), ("rule", ADD), ("cell", X)), 2, "name")):
            self.untouched(workshop, lambda: self.refuses(InvalidStep, {"step": steps[bad], "reason": word}, workshop.tried, *steps))

    def test_steps_of_a_trial_build_on_each_other(self):
        workshop = Workshop()
        steps = [("cell", X), ("cell", BIG), ("rule", ADD), ("rule", SEE), ("rule", TWICE), ("inputs", (1,)), ("decide", "see", "add")]
        self.same(self.untouched(workshop, lambda: workshop.tried(*steps)), ((), (0,)))
        self.same(self.untouched(workshop, lambda: workshop.tried(*steps[:6])), ((("add", "see"), ("add", "twice")), None))

    def test_any_trials(self):
        for seed in range(25):
            chance = chance_of(seed)
            workshop = Workshop.of(PROG)
            for _ in range(8):
                steps = [some_step(chance, workshop.program, workshop.decisions, workshop.inputs) for _ in range(chance.randint(0, 3))]
                steps = [step for step in steps if step[0] != "rule" or len(workshop) < 3]
                log = list(workshop.log())
                for step in steps:
                    word = SlowShop(log).bars(step)
                    if word is not None:
                        self.untouched(workshop, lambda: self.refuses(InvalidStep, {"step": step, "reason": word}, workshop.tried, *steps))
                        break
                    log.append(step)
                else:
                    told = SlowShop(log).told()
                    self.same(self.untouched(workshop, lambda: workshop.tried(*steps)), (told["open_pairs"], told["result"]))
                    workshop.do_all(*steps)


class DoAllTest(Case):
    STEPS = (("cell", X), ("cell", BIG), ("rule", ADD), ("inputs", (2,)))

    def test_all_of_them(self):
        for more in ({}, {"keep": True}, {"keep": False}):
            workshop = Workshop()
            self.same([workshop.do_all(*self.STEPS, **more), workshop.log(), workshop.counts()], [4, self.STEPS, (1, 1)])
            self.same([workshop.do_all(**more), workshop.counts()], [0, (2, 2)])

    def test_a_barred_step(self):
        for more, kept in (({}, 0), ({"keep": False}, 0), ({"keep": True}, 1)):
            for k in range(5):
                for bad, word in ((("unrule", "none"), "name"), (None, "shape"), (["unrule", "add"], "shape"), (("cell", 1), "shape")):
                    workshop = Workshop()
                    workshop.set_starts(0)
                    steps = self.STEPS[:k] + (bad,) + self.STEPS[k:]
                    self.refuses(InvalidStep, {"step": bad, "reason": word}, workshop.do_all, *steps, **more)
                    log = (("starts", 0),) + self.STEPS[:k * kept]
                    self.same([workshop.log(), workshop.counts()], [log, (2, 2)])
                    self.same(told_by(workshop), SlowShop(list(log)).told())
                    self.same([workshop.undo(), workshop.log()], [log[-1], log[:-1]])


class UndoTest(Case):
    def test_back_to_the_beginning_and_one_more(self):
        for seed in range(12):
            chance = chance_of(seed)
            workshop, told = Workshop(), []
            while len(told) < 15:
                step = some_step(chance, workshop.program, workshop.decisions, workshop.inputs)
                if workshop.barred(step) is None:
                    told.append((step, told_by(workshop), workshop.table()))
                    workshop.go(step)
            for step, before, table in told[::-1]:
                self.same(workshop.undo(), step)
                self.same([told_by(workshop), workshop.table()], [before, table])
            for _ in range(2):
                self.refuses(NothingToUndo, {"steps": 0}, workshop.undo)
            self.same(told_by(workshop), told_by(Workshop()))
            self.same(workshop.counts(), (32, 32))
            workshop.go(told[0][0])
            self.same(workshop.log(), (told[0][0],))

    def test_undoing_brings_back_all_that_was_removed(self):
        workshop = Workshop.of(PAIRED, ("add", "twice"))
        workshop.set_inputs((3,))
        before = told_by(workshop)
        workshop.remove_rule("add")
        self.same([workshop.undo(), told_by(workshop)], [("unrule", "add"), before])
        for name in ("add", "see", "twice"):
            workshop.remove_rule(name)
        workshop.remove_cell("x")
        self.same([workshop.undo(), workshop.inputs], [("uncell", "x"), (3,)])


class CountsTest(Case):
    def test_after_each_kind_of_operation(self):
        workshop = Workshop()
        calls = (
            lambda: workshop.go(("cell", X)), lambda: workshop(("cell", BIG)), lambda: workshop.add_rule(ADD), lambda: workshop.add_rule(SEE),
            lambda: workshop.add_rule(TWICE), lambda: workshop.add_cell(("y", 0, 0, 1, False, False, 0)), lambda: workshop.remove_cell("y"),
            lambda: workshop.add_pair("add", "see"), lambda: workshop.remove_pair("add", "see"), lambda: workshop.decide("add", "see"),
            lambda: workshop.undecide("add", "see"), lambda: workshop.set_starts(1), lambda: workshop.set_inputs((1,)),
            lambda: setattr(workshop, "inputs", (2,)), lambda: workshop.decide_by("add", "see", "twice"), lambda: workshop.undo(),
            lambda: workshop.do_all(("starts", 0), ("starts", 1)), lambda: workshop.do_all(), lambda: workshop.remove_rule("see"),
        )
        for many, call in enumerate(calls):
            self.same(workshop.counts(), (many, many))
            call()
        self.same(workshop.counts(), (len(calls), len(calls)))

    def test_refused_ones_count(self):
        workshop = Workshop()
        calls = (
            (InvalidStep, lambda: workshop.go(None)), (InvalidStep, lambda: workshop([])), (InvalidStep, lambda: workshop.add_rule(ADD)),
            (InvalidStep, lambda: workshop.add_cell(None)), (InvalidStep, lambda: workshop.remove_cell("y")), (InvalidStep, lambda: workshop.remove_rule("y")),
            (InvalidStep, lambda: workshop.add_pair("add", "see")), (InvalidStep, lambda: workshop.remove_pair("add", "see")),
            (InvalidStep, lambda: workshop.decide("add", "see")), (InvalidStep, lambda: workshop.undecide("add", "see")),
            (InvalidStep, lambda: workshop.set_starts("y")), (InvalidInput, lambda: workshop.set_inputs((1,))),
            (InvalidInput, lambda: setattr(workshop, "inputs", None)), (InvalidStep, lambda: workshop.decide_by("a")), (NothingToUndo, lambda: workshop.undo()),
            (InvalidStep, lambda: workshop.do_all(("starts", 0), None)), (InvalidStep, lambda: workshop.do_all(None, keep=True)),
        )
        for many, (error, call) in enumerate(calls):
            self.same(workshop.counts(), (many, many))
            self.assertRaises(error, call)
        self.same([workshop.counts(), workshop.log()], [(17, 17), ()])

    def test_what_is_not_counted(self):
        workshop = Workshop.of(PROG, ("add", "see"))
        told_by(workshop)
        workshop.tried(("unrule", "add"))
        for step in (None, ("unrule", "x")):
            workshop.barred(step)
            self.assertRaises(InvalidStep, workshop.tried, step)
        self.assertRaises(UnknownRule, lambda: workshop["x"])
        found = ["add" in workshop, workshop == workshop, workshop != None, workshop["add"], workshop.table(), workshop.of(PROG), workshop.read("")]
        self.assertEqual(len(found), 7)
        self.same(workshop.counts(), (0, 0))

    def test_workshops_that_were_made(self):
        for workshop in (Workshop(), Workshop.of(PROG), Workshop.of(PROG, ("add", "see")), Workshop.read("starts 0\nstarts 1"), replayed((("starts", 0),))):
            self.same(workshop.counts(), (0, 0))


class EqualityTest(Case):
    def test_by_logs(self):
        one, other = Workshop.of(PROG, ("add", "see")), Workshop.of(PROG)
        self.same([one == other, one != other], [False, True])
        other.go(("decide", "add", "see"))
        self.same([one == other, one != other, other == one, one.counts() == other.counts()], [True, False, True, False])
        # The same content by another way.
        other.set_starts(1)
        self.same([one == other, one != other, told_by(one)["decided"] == told_by(other)["decided"]], [False, True, True])
        other.undo()
        self.same([one == other, one != other], [True, False])

    def test_equal_kinds(self):
        """0 and 1 are accepted in no place of a step in which False and True are, nor lists for tuples."""
        one, other = Workshop(), Workshop()
        one.add_cell(("x", 0, 0, 1, True, True, 0))
        for row in (("x", False, 0, 1, True, True, 0), ("x", 0, 0, True, True, True, 0), ("x", 0, 0, 1, 1, True, 0), ["x", 0, 0, 1, True, True, 0]):
            self.assertRaises(InvalidStep, other.add_cell, row)
        other.add_cell(("x", 0, 0, 1, True, True, 0))
        one.set_inputs((1,))
        self.assertRaises(InvalidInput, other.set_inputs, (True,))
        self.assertIs(one == other, False)
        other.set_inputs((1,))
        self.assertIs(one == other, True)

    def test_other_values(self):
        for workshop in (Workshop(), Workshop.of(PROG)):
            for thing in ODD_VALUES + (workshop.log(), list(workshop.log()), workshop.program, str(workshop), Workshop, len(workshop)):
                self.assertIs(workshop == thing, False)
                self.assertIs(thing == workshop, False)
                self.assertIs(workshop != thing, True)
                self.assertIs(thing != workshop, True)
        self.same([Workshop() == Workshop(), Workshop() != Workshop()], [True, False])

    def test_replayed_logs(self):
        for seed in range(12):
            chance = chance_of(seed)
            workshop = Workshop()
            for _ in range(30):
                step = some_step(chance, workshop.program, workshop.decisions, workshop.inputs)
                if workshop.barred(step) is None:
                    workshop.go(step)
            for other in (replayed(workshop.log()), Workshop.read("\n".join(str(workshop).split(" / ")))):
                self.same([workshop == other, workshop != other, told_by(other), other.table()], [True, False, told_by(workshop), workshop.table()])


class ShownTest(Case):
    def test_str(self):
        workshop = Workshop.of((CELLS[1:], (ADD,), (), ("<", "x", 2)))
        workshop.set_inputs((1,))
        self.same(str(workshop), "cell x 0 0 3 0 input / rule add when 1 set x ( + x 1 ) / starts ( < x 2 ) / inputs 1")
        self.same([str(Workshop()), type(str(workshop))], ["-", str])

    def test_len_in_and_items(self):
        workshop = Workshop.of(PROG)
        self.same([len(workshop), len(Workshop())], [3, 0])
        for rule in PROG[1]:
            self.same([workshop[rule[0]], rule[0] in workshop], [rule, True])
        for thing in ODD_VALUES + ("x", "big", "Add", 0, 1, ("add",), ADD, ["add"]):
            self.assertIs(thing in workshop, False)
            with self.assertRaises(UnknownRule) as caught:
                workshop[thing]
            self.assertIs(caught.exception.name, thing)
        workshop.remove_rule("add")
        self.same([len(workshop), "add" in workshop, "see" in workshop], [2, False, True])
        self.refuses(UnknownRule, {"name": "add"}, lambda: workshop["add"])

    def test_the_table(self):
        workshop = Workshop.of(PROG)
        workshop.set_inputs((1,))
        self.same(workshop.table(), ["add    x=1  x=2", "see    x=2  rests", "twice  x=2  rests"])
        workshop.set_inputs((2,))
        self.same(workshop.table(), ["add    x=2  x=3", "see    x=3  big=1", "twice  x=3  rests"])
        workshop.set_starts(0)
        self.same([workshop.table(), Workshop().table()], [[], []])

    def test_the_table_with_tables_of_cells_and_nothing_to_look_at(self):
        workshop = Workshop.of((TABLE, (("a", 1, ((("t", 0), 3), (("t", 1), 4), ("i", 2))), MOVE, SAME), (), 1))
        self.same(workshop.table(), ["a     -    i=2,t.0=3,t.1=4", "move  i=2  rests", "same  i=2  rests"])
        workshop.add_pair("move", "a")
        self.same(workshop.table(), ["move  i=0,t.0=1  t.0=2", "a     -          i=2,t.0=3,t.1=4", "same  i=2        rests"])
        workshop = Workshop.of(((("t", 2, -3, 3, True, True, -3),), (("r", 1, ((("t", 1), ("at", "t", 0)),)), ("longname", 0, ((("t", 0), 1),))), (), 1))
        self.same(workshop.table(), ["longname  -       rests", "r         t.0=-3  t.1=-3"])

    def test_lists_and_logs_belong_to_the_caller(self):
        workshop = Workshop.of(PROG)
        table = workshop.table()
        table.clear()
        self.same([len(workshop.table()), type(table), type(workshop.log()), type(workshop.counts())], [3, list, tuple, tuple])
        steps = list(workshop.log())
        steps.append(None)
        self.same(len(workshop.log()), 5)

    def test_iterating_is_refused(self):
        self.assertRaises(TypeError, iter, Workshop.of(PROG))

    def test_properties_without_setters(self):
        workshop = Workshop.of(PROG)
        for name in ("program", "decided", "decisions", "open_pairs", "is_settled", "result", "record"):
            self.assertRaises(AttributeError, setattr, workshop, name, ())


class MakingTest(Case):
    def test_of_a_program(self):
        for program in (PROG, PAIRED, CHAIN, TABLES, NOTHING, PROG[:3] + (("<", "x", 2),), PROG[:3] + (0,)):
            cells, rules, pairs, starts = program
            log = [("cell", row) for row in cells] + [("rule", rule) for rule in rules] + [("pair",) + pair for pair in pairs]
            log += [] if starts == 1 else [("starts", starts)]
            for workshop in (Workshop.of(program), Workshop().of(program=program)):
                self.same([workshop.log(), workshop.program, workshop.decisions], [tuple(log), program, ()])
                self.same(told_by(workshop), SlowShop(log).told())

    def test_of_a_program_with_decisions(self):
        workshop = Workshop.of(PROG[:3] + (0,), ("twice", "add"), ("add", "see"))
        self.same(workshop.log()[-3:], (("starts", 0), ("decide", "twice", "add"), ("decide", "add", "see")))
        self.same(workshop.decisions, (("add", "see"), ("twice", "add")))

    def test_of_decisions_that_are_barred(self):
        for decisions, bad, word in (((("add", "see"), ("add", "see")), 1, "there"), ((("add", "see"), ("see", "add")), 1, "circle"),
                                     ((("add", "x"),), 0, "name"), ((("add", "add"), ("x", "y")), 0, "circle")):
            self.refuses(InvalidStep, {"step": ("decide",) + decisions[bad], "reason": word}, Workshop.of, PROG, *decisions)
        self.refuses(InvalidStep, {"step": ("decide", "see", "add"), "reason": "ordered"}, Workshop.of, PAIRED, ("see", "add"))

    def test_of_a_program_with_too_much(self):
        rules = tuple((name, 1, (("x", 1),)) for name in "abcdefg")
        self.refuses(InvalidStep, {"step": ("rule", rules[6]), "reason": "full"}, Workshop.of, (NINE, rules, (), 1))

    def test_read(self):
        text = "\n".join(["cell x 0 0 3 0 both", "rule add when 1 set x ( + x 1 )", "inputs 2"])
        for workshop in (Workshop.read(text), Workshop().read(text=text), Workshop.of(PROG).read(text)):
            self.same([workshop.result, workshop.log()[2:], len(workshop.log())], [(3,), (("inputs", (2,)),), 3])
        self.same([Workshop.read("").log(), Workshop.read("starts 0").log()], [(), (("starts", 0),)])
        other = Workshop.of(PROG)
        other.read(text)
        self.same(other.program, PROG)

    def test_read_a_bad_line(self):
        for line, field, text in ((1, 0, "starts 0\n"), (0, 0, "\n"), (0, 0, "\nstarts 0"), (1, 0, "starts 0\n\nstarts 1"), (0, 0, " "), (1, 1, "starts 0\nunrule"),
                                  (2, 3, "unrule a\nunrule a\npair a b c\nx"), (0, 0, "-"), (0, 2, "starts 0 / starts 1")):
            self.refuses(InvalidText, {"line": line, "field": field}, Workshop.read, text)

    def test_read_a_barred_step(self):
        self.refuses(InvalidStep, {"step": ("unrule", "a"), "reason": "name"}, Workshop.read, "starts 0\nunrule a\nunrule b")
        self.refuses(InvalidStep, {"step": ("cell", ("x", 0, 5, 3, True, True, 0)), "reason": "shape"}, Workshop.read, "cell x 0 5 3 0 both")
        # All lines are read before the first step is done.
        self.refuses(InvalidText, {"line": 1, "field": 0}, Workshop.read, "unrule a\nx")

    def test_lines_that_are_read_or_barred(self):
        for step, line in LINES:
            word = Workshop().barred(step)
            if word is None:
                self.same(Workshop.read(line).log(), (step,))
            else:
                self.refuses(InvalidStep, {"step": step, "reason": word}, Workshop.read, line)

    def test_subclasses(self):
        class Small(Workshop):
            RULES = 1

        workshop = Small.of((CELLS, (ADD,), (), 1))
        self.same([type(workshop), workshop.barred(("rule", SEE)), len(NO_STEPS) > 50], [Small, "full", True])
