"""[60], [61], (L6) of [9], [63], [64] and the section leaving."""

from itertools import permutations

from orderless.errors import InvalidPaper
from orderless.leaving import left_out, lets_left, lets_matter, matter_paper, matters, without_rule
from orderless.orders import pairs_closed
from orderless.programchecker import lets_program
from orderless.running import is_settled
from tests.paperwork import is_name, is_tuple_of
from tests.samples import (
    ADD, CELLS, CHAIN, FREE, NINE, NOTHING, ODD_VALUES, PAIRED, PROG, SEE, TABLES, TWICE, Case, changed_once, free_rules, some_programs,
)
from tests.slowcode import left_verdict, matter_papers, matter_verdict, slowly_without
from tests.slowly import Slowly

QUIET = (CELLS, (ADD, TWICE), (), 1)
# Two rules that do the same, and one that would be noticed.
SAME = (CELLS, (ADD, SEE, ("view", ("<", 2, "x"), (("big", 1),))), (("add", "see"), ("add", "view")), 1)
HIDDEN = (tuple(row[:5] + (False,) + row[6:] for row in CELLS),) + PROG[1:]
LATTICE = (NINE, free_rules(5), (("a", "c"), ("b", "c"), ("c", "d"), ("c", "e"), ("a", "d")), 1)


class WithoutTest(Case):
    def without(self, program, rule):
        before = repr(program)
        found = without_rule(program, rule)
        self.assertEqual(repr(program), before)
        self.same(found, slowly_without(program, rule))
        lets_program(found)
        kept = tuple(pair for pair in pairs_closed(program) if rule not in pair)
        self.same(pairs_closed(found), kept)
        return found

    def test_without_pairs(self):
        self.same(self.without(PROG, "see"), (CELLS, (ADD, TWICE), (), 1))
        self.same(self.without(PROG[:3] + (("<", "x", 2),), "add"), (CELLS, (SEE, TWICE), (), ("<", "x", 2)))
        self.same(without_rule(rule="see", program=PROG), (CELLS, (ADD, TWICE), (), 1))
        self.same(self.without((NINE, free_rules(1), (), 1), "a"), (NINE, (), (), 1))

    def test_pairs_through_the_rule(self):
        self.same(self.without(CHAIN, "twice")[2], (("add", "see"),))
        self.same(self.without(CHAIN, "add")[2], (("twice", "see"),))
        self.same(self.without(CHAIN, "see")[2], (("add", "twice"),))
        self.same(self.without(PAIRED, "add")[2], ())

    def test_pairs_that_come_out_twice(self):
        self.same(self.without(LATTICE, "c")[2], (("a", "d"), ("a", "e"), ("b", "d"), ("b", "e")))
        self.same(self.without(LATTICE, "a")[2], (("b", "c"), ("c", "d"), ("c", "e")))
        self.same(self.without(LATTICE, "e")[2], (("a", "c"), ("a", "d"), ("b", "c"), ("c", "d")))

    def test_any_programs(self):
        for program in some_programs(41, 60) + [LATTICE, FREE, SAME]:
            for rule in program[1]:
                self.without(program, rule[0])

    def test_unknown_rules(self):
        for program in (PROG, NOTHING):
            self.unknown(without_rule, program, 1)


class MattersTest(Case):
    def all_of(self, program):
        """What matters, and a paper of each rule that does, against a look at all legal orders and starts."""
        before = repr(program)
        found = []
        for name, _, _ in program[1]:
            papers = matter_papers(program, name)
            self.assertIs(matters(program, name), papers != [])
            paper = matter_paper(program, name)
            if papers == []:
                self.assertIs(paper, None)
            else:
                self.assertIn(paper, papers)
                self.same(matter_verdict(program, name, paper), ("accepted", True))
                self.assertIs(lets_matter(program, name, paper), True)
                found.append(name)
        self.assertEqual(repr(program), before)
        return found

    def test_the_examples(self):
        self.assertIs(lets_matter(PROG, "twice", (1, ("twice", "add", "see"))), True)
        self.same([matters(PROG, "twice"), matters((CELLS, (ADD, TWICE), (), 1), "add")], [True, False])

    def test_by_name(self):
        self.same([matters(rule="see", program=PROG), matter_paper(rule="add", program=QUIET)], [True, None])
        self.assertIs(lets_matter(thing=(1, ("twice", "add", "see")), program=PROG, rule="twice"), True)

    def test_the_samples(self):
        for program, names in ((PROG, ["add", "see", "twice"]), (QUIET, []), (SAME, ["add"]), (HIDDEN, []), (NOTHING, []),
                               (PROG[:3] + (0,), []), (PROG[:3] + (("=", "x", 3),), ["see"]), (CHAIN, ["add", "see"])):
            self.same(self.all_of(program), names)

    def test_rules_that_change_nothing_or_nothing_shown(self):
        rest = ("rest", 0, (("big", 1),))
        look = ("look", 1, (("x", "x"),))
        self.same(self.all_of((CELLS, (look, rest), (), 1)), [])
        self.same(self.all_of((CELLS, (look, rest, SEE), (), 1)), ["see"])

    def test_any_programs(self):
        many = 0
        for program in some_programs(42, 120) + [TABLES, (NINE, free_rules(4), (("a", "b"),), 1)]:
            many += len(self.all_of(program))
        self.assertGreater(many, 50)

    def test_unknown_rules(self):
        for function in (matters, matter_paper):
            self.unknown(function, PROG, 1)
            self.unknown(function, NOTHING, 1)
        self.unknown(lets_matter, PROG, 1, (1, ("twice", "add", "see")))
        self.unknown(lets_matter, PROG, 1, None)


class LetsMatterTest(Case):
    PAPER = (1, ("twice", "add", "see"))

    def wrong(self, word, thing, program=PROG, rule="twice"):
        self.refuses(InvalidPaper, {"word": word, "at": -1}, lets_matter, program, rule, thing)
        self.same(matter_verdict(program, rule, thing), (word, -1))

    def test_shape(self):
        for thing in ODD_VALUES:
            self.wrong("shape", thing)
        for thing in (self.PAPER[::-1], self.PAPER + (1,), list(self.PAPER), (1, ["twice", "add", "see"]), (True, self.PAPER[1]),
                      (-1, self.PAPER[1]), ((0, 1), self.PAPER[1]), (1, "see"), (1, ("twice", "add", 1)), (1, ("twice", "add", "See")),
                      (None, self.PAPER[1]), ("1", self.PAPER[1]), (1, None), (1, ("twice", "add", ""))):
            self.wrong("shape", thing)

    def test_start(self):
        for number in (4, 5, 8, 10 ** 59):
            self.wrong("start", (number, self.PAPER[1]))
        self.wrong("start", self.PAPER, PROG[:3] + (("<", 1, "x"),))
        self.wrong("start", self.PAPER, PROG[:3] + (0,))

    def test_order(self):
        for order in ((), ("twice",), ("twice", "add"), ("twice", "add", "add"), ("twice", "add", "see", "see"), ("twice", "add", "other"),
                      ("add", "see")):
            self.wrong("order", (1, order))
        self.wrong("order", (1, ("twice", "see", "add")), PAIRED)
        self.wrong("order", self.PAPER, CHAIN)

    def test_same(self):
        for number, order in ((0, self.PAPER[1]), (1, ("see", "twice", "add")), (2, ("add", "twice", "see"))):
            self.wrong("same", (number, order))
        self.wrong("same", (1, ("add", "twice")), QUIET)

    def test_two_errors(self):
        self.wrong("shape", (9, ("See",)))
        self.wrong("start", (9, ("see",)))
        self.wrong("start", (4, self.PAPER[1]), HIDDEN)
        self.wrong("order", (0, ("twice",)))
        self.wrong("order", (1, ("twice",)), HIDDEN)

    def test_papers_with_any_part_changed(self):
        for program in (PROG, PAIRED):
            for rule in program[1]:
                for thing in changed_once(matter_paper(program, rule[0])):
                    self.same(self.verdict(lets_matter, program, rule[0], thing), matter_verdict(program, rule[0], thing))

    def test_all_papers(self):
        for program in some_programs(43, 30):
            names = tuple(rule[0] for rule in program[1])
            for number in range(0, 12, 3):
                for order in permutations(names):
                    self.same(self.verdict(lets_matter, program, names[0], (number, order)),
                              matter_verdict(program, names[0], (number, order)))


class LeftOutTest(Case):
    def left(self, program):
        before = repr(program)
        names, rest = left_out(program)
        self.same(left_verdict(program, names), ("accepted", rest))
        self.same(lets_left(program, names), rest)
        for rule in rest[1]:
            self.assertNotEqual(matter_papers(rest, rule[0]), [])
        self.assertEqual(repr(program), before)
        return names, rest

    def test_the_samples(self):
        self.same(self.left(PROG), ((), PROG))
        self.same(left_out(program=NOTHING), ((), NOTHING))
        for program in (QUIET, HIDDEN, PROG[:3] + (0,)):
            names, rest = self.left(program)
            self.same([sorted(names), rest[1:3]], [[rule[0] for rule in program[1]], ((), ())])

    def test_two_rules_that_do_the_same(self):
        names, rest = self.left(SAME)
        self.same([len(names), len(rest[1])], [1, 2])
        self.assertIn(names, (("see",), ("view",)))
        for first, second in (("see", "view"), ("view", "see")):
            self.same(lets_left(SAME, (first,)), without_rule(SAME, first))
            self.refuses(InvalidPaper, {"word": "matters", "at": 1}, lets_left, SAME, (first, second))

    def test_results_stay(self):
        """(L6) and [64]: each legal order of the other rules has the result that it had; settled programs stay settled."""
        for program in some_programs(44, 60) + [SAME, QUIET]:
            names, rest = self.left(program)
            slowly, shorter = Slowly(program), Slowly(rest)
            for start in slowly.starts:
                for order in slowly.orders(slowly.names):
                    self.same(slowly.result(start, order), shorter.result(start, tuple(name for name in order if name not in names)))
            if is_settled(program):
                self.assertIs(is_settled(rest), True)


class LetsLeftTest(Case):
    def wrong(self, word, at, thing, program=PROG):
        self.refuses(InvalidPaper, {"word": word, "at": at}, lets_left, program, thing)
        self.same(left_verdict(program, thing), (word, at))

    def test_nothing_left_out(self):
        for program in (PROG, NOTHING, QUIET):
            self.same(lets_left(thing=(), program=program), program)

    def test_each_order(self):
        self.same(lets_left(QUIET, ("twice", "add")), (CELLS, (), (), 1))
        self.same(lets_left(QUIET, ("add", "twice")), (CELLS, (), (), 1))
        self.same(lets_left(HIDDEN, ("see",)), without_rule(HIDDEN, "see"))

    def test_shape(self):
        for thing in ODD_VALUES:
            if not is_tuple_of(thing, is_name):
                self.wrong("shape", -1, thing)
        for thing in (["add"], "add", ("add", 1), ("Add",), ("add", ""), (("add",),), ("add", None)):
            self.wrong("shape", -1, thing, QUIET)

    def test_rule(self):
        self.wrong("rule", 0, ("x",))
        self.wrong("rule", 0, ("add",), NOTHING)
        self.wrong("rule", 1, ("add", "see"), QUIET)
        self.wrong("rule", 1, ("add", "add"), QUIET)
        self.wrong("rule", 2, ("add", "twice", "add"), QUIET)

    def test_matters(self):
        for name in ("add", "see", "twice"):
            self.wrong("matters", 0, (name,))
        self.wrong("matters", 1, ("see", "view"), SAME)
        self.wrong("matters", 1, ("view", "add"), SAME)
        self.wrong("matters", 0, ("add", "see"), SAME)

    def test_two_errors(self):
        self.wrong("shape", -1, ("add", "x", "See"))
        self.wrong("matters", 0, ("add", "x"))
        self.wrong("rule", 0, ("x", "add"))
        self.wrong("rule", 1, ("see", "x", "view"), SAME)

    def test_names_with_any_part_changed(self):
        for program, names in ((QUIET, ("add", "twice")), (SAME, ("see",)), (HIDDEN, ("see", "add", "twice"))):
            for thing in changed_once(names):
                self.same(self.verdict(lets_left, program, thing), left_verdict(program, thing))
