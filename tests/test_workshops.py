"""[70] to [72], (L8) of [9]: the steps of a workshop, what bars them, and what belongs to what it has."""

from orderless.errors import InvalidStep
from orderless.programchecker import lets_program
from orderless.workshops import Workshop
from tests.samples import ADD, CELLS, CHAIN, LONG, MOVE, NOTHING, PAIRED, PROG, SAME, SEE, TABLE, TABLES, TWICE, Case, chance_of, free_rules
from tests.slowshop import SlowShop, told_by
from tests.steps import NO_STEPS, some_step

BIG, X = CELLS
NINE = ("x", 0, 0, 8, True, True, 0)


class WorkshopCase(Case):
    def bars(self, word, workshop, step):
        """The step is barred by this word in each way to do it, and changes nothing."""
        before = repr((told_by(workshop), step))
        self.same(SlowShop(list(workshop.log())).bars(step), word)
        self.same(workshop.barred(step), word)
        for function in (workshop.go, workshop):
            self.refuses(InvalidStep, {"step": step, "reason": word}, function, step)
            with self.assertRaises(InvalidStep) as caught:
                function(step)
            self.assertIs(caught.exception.step, step)
        self.assertEqual(repr((told_by(workshop), step)), before)

    def does(self, workshop, step):
        self.same(workshop.barred(step), None)
        self.same(SlowShop(list(workshop.log())).bars(step), None)
        return workshop.go(step)


class StepsTest(WorkshopCase):
    def test_a_new_workshop(self):
        workshop = Workshop()
        self.same(told_by(workshop), {
            "program": NOTHING, "decided": NOTHING, "decisions": (), "inputs": (), "open_pairs": (), "is_settled": True, "record": ((), (), ()),
            "result": (), "needless": (), "implied": (), "choices": [], "log": (), "len": 0, "str": "-"})
        self.same([Workshop.CELLS, Workshop.STATES, Workshop.RULES, workshop.CELLS], [10, 256, 6, 10])
        self.assertRaises(TypeError, Workshop, 1)

    def test_values_that_are_no_steps(self):
        for workshop in (Workshop(), Workshop.of(PROG)):
            for thing in NO_STEPS:
                self.bars("shape", workshop, thing)

    def test_cell(self):
        workshop = Workshop()
        self.same(self.does(workshop, ("cell", X)), None)
        self.does(workshop, ("cell", BIG))
        self.same(workshop.program, (CELLS, (), (), 1))
        self.bars("name", workshop, ("cell", X))
        self.bars("name", workshop, ("cell", ("x", 3, 0, 1, False, False, 0)))
        self.bars("full", workshop, ("cell", ("y", 0, 0, 32, False, False, 0)))
        self.bars("full", workshop, ("cell", ("y", 9, 0, 0, False, False, 0)))
        self.bars("full", workshop, ("cell", ("y", LONG, 0, 0, False, False, 0)))
        self.bars("full", workshop, ("cell", ("y", 0, -LONG, LONG, False, False, 0)))
        self.does(workshop, ("cell", ("y", 0, 0, 31, False, False, 31)))
        self.bars("full", workshop, ("cell", ("z", 0, 0, 1, False, False, 0)))
        self.does(workshop, ("cell", ("t", 7, 2, 2, False, False, 2)))
        self.bars("full", workshop, ("cell", ("z", 0, 0, 0, False, False, 0)))
        # The name is there, and it would be full, too.
        self.bars("name", workshop, ("cell", ("t", 9, 0, 9, False, False, 0)))
        self.same(lets_program(workshop.program), 256)

    def test_uncell(self):
        workshop = Workshop.of(TABLES)
        self.bars("name", workshop, ("uncell", "x"))
        self.bars("name", workshop, ("uncell", "move"))
        for name in ("i", "t"):
            self.bars("used", workshop, ("uncell", name))
        self.does(workshop, ("unrule", "same"))
        for name in ("i", "t"):
            self.bars("used", workshop, ("uncell", name))
        self.does(workshop, ("unrule", "move"))
        self.does(workshop, ("starts", ("<", "i", 3)))
        self.bars("used", workshop, ("uncell", "i"))
        self.does(workshop, ("uncell", "t"))
        self.does(workshop, ("starts", 0))
        self.does(workshop, ("uncell", "i"))
        self.same(workshop.program, ((), (), (), 0))

    def test_each_place_where_a_cell_is_used(self):
        cells = (("i", 0, 0, 1, True, False, 0), ("j", 0, 0, 1, True, False, 0), ("t", 2, 0, 1, True, False, 0))
        for rule in (("r", "i", (("j", 1),)), ("r", 1, (("i", 1),)), ("r", 1, (("j", ("+", 1, "i")),)), ("r", 1, ((("t", "i"), 1),)),
                     ("r", 1, (("j", 1), ("j", ("if", 0, "i", 1)))), ("r", ("at", "t", ("not", "i")), (("j", 1),))):
            workshop = Workshop.of((cells, (rule,), (), 1))
            self.bars("used", workshop, ("uncell", "i"))
        for rule in (("i", "j", (("j", 1),)), ("i", 1, ((("t", 1), "j"),))):
            self.does(Workshop.of((cells, (rule,), (), 1)), ("uncell", "i"))
        for rule in (("r", 1, ((("t", 0), 1),)), ("r", ("at", "t", 1), (("j", 1),)), ("r", 1, (("j", ("at", "t", "j")),))):
            self.bars("used", Workshop.of((cells, (rule,), (), 1)), ("uncell", "t"))
        self.bars("used", Workshop.of((cells, (), (), ("at", "t", "j"))), ("uncell", "t"))

    def test_rule(self):
        workshop = Workshop.of((CELLS, (ADD,), (), 1))
        self.bars("name", workshop, ("rule", ADD))
        self.bars("name", workshop, ("rule", ("add", "z", (("z", 1),))))
        for rule in (("r", "y", (("x", 1),)), ("r", 1, (("y", 1),)), ("r", 1, (("x", "y"),)), ("r", 1, ((("x", 0), 1),)), ("r", ("at", "x", 0), (("x", 1),))):
            self.bars("cells", workshop, ("rule", rule))
        self.bars("cells", Workshop.of(TABLES), ("rule", ("r", 1, (("t", 1),))))
        for name in "bcdef":
            self.does(workshop, ("rule", (name,) + SEE[1:]))
        self.bars("full", workshop, ("rule", SEE))
        self.bars("cells", workshop, ("rule", ("r", "y", (("x", 1),))))
        self.bars("name", workshop, ("rule", ADD))
        self.same([rule[0] for rule in workshop.program[1]], ["add", "b", "c", "d", "e", "f"])
        self.does(workshop, ("unrule", "c"))
        self.does(workshop, ("rule", SEE))

    def test_unrule(self):
        workshop = Workshop.of(PROG, ("add", "see"))
        for name in ("x", "big", "ad"):
            self.bars("name", workshop, ("unrule", name))
        self.does(workshop, ("pair", "add", "twice"))
        self.does(workshop, ("pair", "twice", "see"))
        self.does(workshop, ("unrule", "add"))
        self.same([workshop.program, workshop.decisions], [(CELLS, (SEE, TWICE), (("twice", "see"),), 1), ()])
        self.bars("name", workshop, ("unrule", "add"))
        # When the rule comes back, the pairs and decisions about it do not.
        self.does(workshop, ("rule", ADD))
        self.same([workshop.program[2], workshop.decisions], [(("twice", "see"),), ()])

    def test_pair(self):
        workshop = Workshop.of(PAIRED)
        for pair in (("add", "x"), ("x", "add"), ("x", "x"), ("add", "big")):
            self.bars("name", workshop, ("pair",) + pair)
        self.bars("there", workshop, ("pair", "add", "see"))
        self.bars("circle", workshop, ("pair", "see", "add"))
        self.bars("circle", workshop, ("pair", "add", "add"))
        self.does(workshop, ("pair", "see", "twice"))
        self.bars("circle", workshop, ("pair", "twice", "add"))
        self.does(workshop, ("pair", "add", "twice"))
        self.same(workshop.program[2], (("add", "see"), ("add", "twice"), ("see", "twice")))

    def test_pairs_against_decisions(self):
        workshop = Workshop.of(PROG, ("add", "see"), ("see", "twice"))
        for pair in (("see", "add"), ("twice", "see"), ("twice", "add")):
            self.bars("circle", workshop, ("pair",) + pair)
        # A decision may be a pair, too.
        self.does(workshop, ("pair", "add", "see"))
        self.same([workshop.program[2], workshop.decisions, workshop.decided[2]],
                  [(("add", "see"),), (("add", "see"), ("see", "twice")), (("add", "see"), ("see", "twice"))])

    def test_unpair(self):
        workshop = Workshop.of(PAIRED, ("add", "twice"))
        for pair in (("see", "add"), ("add", "twice"), ("x", "y"), ("add", "add")):
            self.bars("there", workshop, ("unpair",) + pair)
        self.does(workshop, ("unpair", "add", "see"))
        self.bars("there", workshop, ("unpair", "add", "see"))
        self.same([workshop.program, workshop.decisions], [PROG, (("add", "twice"),)])

    def test_starts(self):
        workshop = Workshop.of((TABLE, (), (), 1))
        for e in ("x", "t", ("at", "t", 0), ("at", "i", 0), ("+", "i", ("at", "t", 5)), ("and", 0, "y")):
            self.bars("cells", workshop, ("starts", e))
        workshop = Workshop.of(((("i", 0, 0, 2, True, False, 0), ("t", 2, 0, 1, True, False, 0)), (), (), 1))
        for e in (("at", "t", "i"), ("at", "t", 2), ("at", "t", -1), ("*", 0, ("at", "t", 5))):
            self.bars("fails", workshop, ("starts", e))
        for e in (("at", "t", 1), ("at", "t", ("mod", "i", 2)), ("and", ("<", "i", 2), ("at", "t", "i")), ("or", 1, ("at", "t", 5)), 0, 1, -5):
            self.does(workshop, ("starts", e))
            self.same(workshop.program[3], e)
        # Both a cell that is no input, and a part that fails.
        workshop.add_cell(("h", 0, 0, 1, False, False, 0))
        self.bars("cells", workshop, ("starts", ("+", "h", ("at", "t", 5))))

    def test_decide(self):
        workshop = Workshop.of(PAIRED)
        for pair in (("add", "x"), ("x", "add"), ("x", "x")):
            self.bars("name", workshop, ("decide",) + pair)
        for pair in (("add", "see"), ("see", "add")):
            self.bars("ordered", workshop, ("decide",) + pair)
        self.bars("circle", workshop, ("decide", "add", "add"))
        self.does(workshop, ("decide", "see", "twice"))
        self.bars("there", workshop, ("decide", "see", "twice"))
        self.bars("circle", workshop, ("decide", "twice", "see"))
        self.bars("circle", workshop, ("decide", "twice", "add"))
        # It follows from the pair and the decision, but is not ordered by pairs alone.
        self.does(workshop, ("decide", "add", "twice"))
        self.same(workshop.decisions, (("add", "twice"), ("see", "twice")))

    def test_decisions_that_are_ordered_by_pairs_later(self):
        workshop = Workshop.of(PROG, ("add", "see"))
        workshop.add_pair("add", "twice")
        workshop.add_pair("twice", "see")
        self.bars("there", workshop, ("decide", "add", "see"))
        self.bars("ordered", workshop, ("decide", "see", "add"))
        self.bars("ordered", workshop, ("decide", "add", "twice"))
        self.same(workshop.implied(), (("add", "see"),))
        self.does(workshop, ("undecide", "add", "see"))
        self.bars("ordered", workshop, ("decide", "add", "see"))

    def test_undecide(self):
        workshop = Workshop.of(PAIRED, ("add", "twice"))
        for pair in (("add", "see"), ("twice", "add"), ("x", "y"), ("add", "add")):
            self.bars("there", workshop, ("undecide",) + pair)
        self.does(workshop, ("undecide", "add", "twice"))
        self.bars("there", workshop, ("undecide", "add", "twice"))
        self.same([workshop.program, workshop.decisions], [PAIRED, ()])

    def test_inputs(self):
        for workshop, wrong in ((Workshop(), ((0,),)), (Workshop.of((CELLS[:1], (), (), 1)), ((0,),)), (Workshop.of(PROG), ((), (0, 0), (9, 9)))):
            for values in wrong:
                self.bars("many", workshop, ("inputs", values))
        workshop = Workshop.of(PROG)
        for value in (-1, 4, LONG, -LONG):
            self.bars("range", workshop, ("inputs", (value,)))
        cells = (("a", 0, -1, 1, True, False, -1), ("b", 0, 0, 1, False, False, 0), ("t", 2, 5, 6, True, True, 5))
        workshop = Workshop.of((cells, (), (), 1))
        self.same(workshop.inputs, (-1, 5, 5))
        for values in ((-1, 5), (-1, 0, 5, 5), (-1, (5, 5))[:1]):
            self.bars("many", workshop, ("inputs", values))
        for values in ((-2, 5, 5), (2, 5, 5), (0, 4, 5), (0, 5, 7), (5, 5, 0)):
            self.bars("range", workshop, ("inputs", values))
        self.does(workshop, ("inputs", (1, 5, 6)))
        self.same([workshop.inputs, workshop.record], [(1, 5, 6), ((1, 0, 5, 6), (), (1, 0, 5, 6))])

    def test_the_methods_for_steps(self):
        workshop = Workshop()
        calls = ((workshop.add_cell, (X,), ("cell", X)), (workshop.add_cell, (BIG,), ("cell", BIG)), (workshop.add_rule, (ADD,), ("rule", ADD)),
                 (workshop.add_rule, (SEE,), ("rule", SEE)), (workshop.add_pair, ("add", "see"), ("pair", "add", "see")),
                 (workshop.remove_pair, ("add", "see"), ("unpair", "add", "see")), (workshop.decide, ("see", "add"), ("decide", "see", "add")),
                 (workshop.undecide, ("see", "add"), ("undecide", "see", "add")), (workshop.set_starts, (("<", "x", 3),), ("starts", ("<", "x", 3))),
                 (workshop.set_starts, (1,), ("starts", 1)), (workshop.remove_rule, ("see",), ("unrule", "see")),
                 (workshop.remove_cell, ("big",), ("uncell", "big")))
        log = []
        for function, parts, step in calls:
            self.same(function(*parts), None)
            log.append(step)
            self.same(workshop.log(), tuple(log))
            self.same(told_by(workshop), SlowShop(log).told())
        for function, parts, step in ((workshop.add_cell, (X,), ("cell", X)), (workshop.add_rule, (SEE,), ("rule", SEE)), (workshop.remove_cell, ("x",), ("uncell", "x")),
                                      (workshop.remove_rule, (None,), ("unrule", None)), (workshop.set_starts, ("big",), ("starts", "big")),
                                      (workshop.decide, ("add", "add"), ("decide", "add", "add")), (workshop.remove_pair, ("add", []), ("unpair", "add", []))):
            word = workshop.barred(step)
            self.refuses(InvalidStep, {"step": step, "reason": word}, function, *parts)

    def test_the_methods_by_name(self):
        workshop = Workshop()
        workshop.add_cell(row=X)
        workshop.add_cell(row=BIG)
        workshop.add_rule(rule=ADD)
        workshop.add_rule(rule=SEE)
        workshop.add_pair(one="add", other="see")
        workshop.remove_pair(other="see", one="add")
        workshop.decide(other="add", one="see")
        workshop.undecide(one="see", other="add")
        workshop.set_starts(expression="x")
        self.same([workshop.set_inputs(value=(1,)), workshop.go(step=("inputs", (2,))), workshop(step=("inputs", (2,)))], [("add", "see"), ("add", "see"), ()])
        workshop.remove_rule(name="see")
        workshop.remove_cell(name="big")
        self.same([workshop.barred(step=None), len(workshop.log())], ["shape", 14])

    def test_a_step_that_changes_nothing_is_in_the_log(self):
        workshop = Workshop.of(PROG)
        self.same([workshop.go(("starts", 1)), workshop.go(("inputs", (0,))), workshop.log()[-2:]], [None, (), (("starts", 1), ("inputs", (0,)))])


class BelongsTest(WorkshopCase):
    def test_after_each_of_many_steps(self):
        for seed in range(40):
            chance = chance_of(seed)
            workshop, log = Workshop(), []
            for _ in range(45):
                step = some_step(chance, workshop.program, workshop.decisions, workshop.inputs)
                if len(workshop) >= 4 and step[0] == "rule":
                    continue
                slow = SlowShop(log)
                word = slow.bars(step)
                self.same(workshop.barred(step), word)
                if word is not None:
                    before = repr(told_by(workshop))
                    self.refuses(InvalidStep, {"step": step, "reason": word}, workshop.go, step)
                    self.assertEqual(repr(told_by(workshop)), before)
                    continue
                names = slow.names_done_again(step[1]) if step[0] == "inputs" else None
                self.same(workshop.go(step), names)
                log.append(step)
                self.same(told_by(workshop), SlowShop(log).told())
                lets_program(workshop.program)
                lets_program(workshop.decided)

    def test_implied_and_needless(self):
        workshop = Workshop.of(PROG, ("see", "add"))
        self.same([workshop.open_pairs, workshop.implied(), workshop.needless()], [(), (), ()])
        # Behind see nobody looks at x: this decision was never needed.
        workshop.decide("add", "twice")
        self.same([workshop.implied(), workshop.needless()], [(), (("add", "twice"),)])
        workshop.decide("see", "twice")
        self.same([workshop.implied(), workshop.needless()], [(("see", "twice"),), (("add", "twice"),)])

    def test_of_two_needless_decisions_one_is_needed_without_the_other_one(self):
        """If see runs before twice, nobody looks at x between add and twice; see and twice commute."""
        workshop = Workshop.of(PROG, ("add", "twice"), ("see", "twice"))
        self.same([workshop.needless(), workshop.open_pairs], [(("add", "twice"), ("see", "twice")), (("add", "see"),)])
        workshop.undecide("see", "twice")
        self.same([workshop.needless(), workshop.open_pairs], [(), (("add", "see"),)])
        workshop.decide("see", "twice")
        workshop.undecide("add", "twice")
        self.same([workshop.needless(), workshop.open_pairs], [(("see", "twice"),), (("add", "see"),)])

    def test_a_decision_that_is_a_pair_is_implied(self):
        workshop = Workshop.of(PROG, ("add", "see"))
        workshop.add_pair("add", "see")
        self.same([workshop.implied(), workshop.needless()], [(("add", "see"),), ()])
        workshop.remove_pair("add", "see")
        self.same([workshop.implied(), workshop.needless()], [(), ()])

    def test_removing_cells_and_rules_with_all_that_belongs_to_them(self):
        cells = (("a", 0, 0, 1, True, True, 0), ("b", 2, 0, 2, True, True, 0), ("c", 0, 0, 3, True, False, 0))
        workshop = Workshop.of((cells, (("r", 1, (("a", "a"),)),), (), 1))
        workshop.set_inputs((1, 2, 1, 3))
        workshop.remove_cell("b")
        self.same([workshop.inputs, workshop.record[0]], [(1, 3), (1, 3)])
        workshop.add_cell(("b", 1, 1, 2, True, True, 1))
        self.same([workshop.inputs, workshop.record[0]], [(1, 1, 3), (1, 1, 3)])
        workshop.add_cell(("aa", 0, -3, -2, False, True, -2))
        self.same([workshop.inputs, workshop.record[0]], [(1, 1, 3), (1, -2, 1, 3)])
        workshop.add_cell(("d", 0, -1, 1, True, True, -1))
        self.same([workshop.inputs, workshop.record[0]], [(1, 1, 3, -1), (1, -2, 1, 3, -1)])
        workshop.remove_rule("r")
        workshop.remove_cell("a")
        self.same([workshop.inputs, workshop.result], [(1, 3, -1), (-2, 1, -1)])

    def test_inputs_that_are_no_start(self):
        workshop = Workshop.of(CHAIN[:3] + (("<", 0, "x"),))
        self.same([workshop.inputs, workshop.record, workshop.result, workshop.is_settled], [(0,), None, None, True])
        self.same([workshop.set_inputs((2,)), workshop.result], [("add", "twice", "see"), (1,)])
        workshop.set_starts(("<", "x", 1))
        self.same([workshop.record, workshop.result, workshop.inputs], [None, None, (2,)])
        workshop.set_starts(0)
        self.same([workshop.open_pairs, workshop.is_settled, workshop.result], [(), True, None])

    def test_the_result_needs_that_it_is_settled(self):
        workshop = Workshop.of(PROG)
        self.same([workshop.result, workshop.record[2], workshop.is_settled], [None, (0, 2), False])
        self.same(workshop.set_inputs((3,)), ("add", "see", "twice"))
        # For this start all orders have the same result, but for others they have not.
        self.same(workshop.result, None)
        workshop.decide("see", "add")
        self.same([workshop.result, workshop.record[0]], [(1,), (0, 3)])

    def test_the_least_order_of_the_decided_program(self):
        workshop = Workshop.of(((NINE,), free_rules(3), (("c", "a"),), 1))
        self.same([row[0] for row in workshop.record[1]], ["b", "c", "a"])
        workshop.decide("a", "b")
        self.same([row[0] for row in workshop.record[1]], ["c", "a", "b"])

    def test_more_rules_than_that_are_asked_for(self):
        workshop = Workshop.of(((NINE,), free_rules(6), (), 1))
        self.same([len(workshop.open_pairs), workshop.is_settled], [15, False])
        many = workshop.decide_by(*"fedcba")
        self.same([workshop.is_settled, len(workshop.decisions)], [True, many])
        self.assertTrue(all(one > other for one, other in workshop.decisions))
        self.same([workshop.decided, workshop.program[2]], [workshop.program[:2] + (workshop.decisions, 1), ()])

    def test_tables_and_same(self):
        workshop = Workshop.of((TABLE, (MOVE, SAME), (), 1))
        self.same(told_by(workshop), SlowShop(list(workshop.log())).told())
