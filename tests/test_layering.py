"""[58], [59], (L5) of [9], [63], [64] and the section layering."""

from itertools import combinations

from orderless.coding import code_of
from orderless.errors import InvalidPaper
from orderless.interleaving import interleaved, schedules_of
from orderless.layering import layers_of, lets_layers, run_layers
from orderless.running import is_settled, result_of, run_states, shown_in
from orderless.states import all_states, starts_of
from tests.samples import (
    CELLS, CHAIN, CODE, FREE, NINE, NOTHING, ODD_VALUES, PAIRED, PROG, TABLES, Case, chance_of, changed_once, free_rules, some_programs,
)
from tests.slowcode import layer_verdict, slowly_interleaved
from tests.slowly import Slowly

# Four plain shown cells, and rules of which each changes one of them.
FOUR_CELLS = tuple((name, 0, 0, 1, name == "a", True, 0) for name in "abcd")
SET_A, SET_B, SET_C, SET_D = (("set" + name, 1, ((name, ("-", 1, name)),)) for name in "abcd")
COPY = ("copy", 1, (("b", "a"),))
APART = (FOUR_CELLS, (SET_A, SET_B, SET_C, SET_D), (), 1)


def layerings(names):
    """All tuples of nonempty ascending layers of the names."""
    if not names:
        return [()]
    firsts = [first for many in range(1, len(names) + 1) for first in combinations(names, many)]
    return [(first,) + rest for first in firsts for rest in layerings(tuple(name for name in names if name not in first))]


class LayersOfTest(Case):
    def least(self, program):
        before = repr(program)
        found = layers_of(program)
        self.assertEqual(repr(program), before)
        self.same(layer_verdict(program, found), ("accepted", len(found)))
        self.same(lets_layers(program, found), len(found))
        names = tuple(rule[0] for rule in program[1])
        many = min(len(thing) for thing in layerings(names) if layer_verdict(program, thing)[0] == "accepted")
        self.same(len(found), many)
        return many

    def test_the_samples(self):
        for program, many in ((PROG, 3), (PAIRED, 3), (CHAIN, 3), (NOTHING, 0), (APART, 1), (TABLES, 2)):
            self.same(self.least(program), many)
        self.same(layers_of(program=NOTHING), ())
        self.same(layers_of(NOTHING), ())
        self.same(len(layers_of(FREE)), 6)

    def test_apart_rules_with_pairs_can_share_a_layer(self):
        for pairs in ((("seta", "setb"),), (("seta", "setb"), ("setb", "setc"), ("setc", "setd"))):
            self.same(layers_of(APART[:2] + (pairs, 1)), (("seta", "setb", "setc", "setd"),))

    def test_rules_that_share_a_cell(self):
        program = (FOUR_CELLS, (COPY, SET_A, SET_C), (), 1)
        self.same(self.least(program), 2)
        self.same(self.least(program[:2] + ((("setc", "copy"),), 1)), 2)
        self.same(self.least(program[:2] + ((("copy", "setc"), ("setc", "seta")), 1)), 2)

    def test_chains_of_pairs_that_force_more_layers(self):
        """copy and seta are not apart, nor copy and setb; setc lies between by pairs alone."""
        for pairs in ((("copy", "setc"), ("setc", "seta"), ("seta", "setb")), (("seta", "copy"), ("copy", "setb")),
                      (("setb", "setc"), ("setc", "copy"))):
            self.least((FOUR_CELLS, (COPY, SET_A, SET_B, SET_C), pairs, 1))

    def test_greedy_choices_that_are_not_the_least(self):
        """Rules with two cells each, and pairs: as many rules as possible in the first layer may be too many."""
        chance = chance_of(31)
        names = ("p", "q", "r", "s")
        for _ in range(40):
            rules = tuple((name, 1, tuple((cell, ("-", 1, cell)) for cell in sorted(chance.sample("abcd", chance.randint(1, 2)))))
                          for name in names)
            order = chance.sample(names, 4)
            pairs = sorted((one, other) for one, other in combinations(order, 2) if chance.random() < 0.35)
            self.least((FOUR_CELLS, rules, tuple(pairs), 1))

    def test_any_programs(self):
        for program in some_programs(32, 40):
            self.least(program)

    def test_the_bounds_of_64(self):
        for program in some_programs(33, 30) + [PROG, CHAIN, APART, FREE]:
            names = [rule[0] for rule in program[1]]
            pairs = set(combinations(names, 2))
            apart = {pair for pair in pairs if layer_verdict((program[0], program[1], (), 1), (pair,) + tuple(
                (name,) for name in names if name not in pair))[0] == "accepted"}
            cliques = [group for many in range(len(names) + 1) for group in combinations(names, many)
                       if not set(combinations(group, 2)) & apart]
            self.assertGreaterEqual(len(layers_of(program)), max(map(len, cliques)))


class LetsLayersTest(Case):
    def wrong(self, word, at, thing, program=PROG):
        self.refuses(InvalidPaper, {"word": word, "at": at}, lets_layers, program, thing)
        self.same(layer_verdict(program, thing), (word, at))

    def test_the_examples(self):
        self.same(lets_layers(PROG, (("twice",), ("add",), ("see",))), 3)
        self.wrong("apart", ("add", "see"), (("add", "see"), ("twice",)))

    def test_by_name(self):
        self.same(lets_layers(thing=(), program=NOTHING), 0)

    def test_shape(self):
        for thing in ODD_VALUES:
            if thing not in ((), ((),), ("x", "y")) and not isinstance(thing, str):
                self.wrong("shape", -1, thing)
        for thing in ([("add",)], (["add"],), ("add", "see", "twice"), (("add", 1),), (("Add",),), (("",),), ((("add",),),), "add",
                      (("add",), None), (("add", True),), (("nine letters",),), (("add",), ("abcdefghi",))):
            self.wrong("shape", -1, thing)

    def test_layer(self):
        for k, thing in ((0, ((), ("add",), ("see",), ("twice",))), (3, (("add",), ("see",), ("twice",), ())), (0, (("see", "add"),)),
                         (1, (("twice",), ("see", "add"))), (0, (("add", "add"),)), (0, (("other",),)), (1, (("add",), ("add", "see"))),
                         (2, (("add",), ("see",), ("twice", "x"))), (1, (("add",), ("add",), ())), (0, ((),)), (2, (("add",), ("see",), ("add",)))):
            self.wrong("layer", k, thing)
        for thing in (((),), (("add",),)):
            self.wrong("layer", 0, thing, NOTHING)

    def test_rules(self):
        for thing in ((), (("add",),), (("add",), ("twice",)), (("add", "see"),)):
            self.wrong("rules", -1, thing)
        self.wrong("rules", -1, (("twice",), ("see",)), CHAIN)

    def test_pair(self):
        self.wrong("pair", ("add", "see"), (("see",), ("add",), ("twice",)), PAIRED)
        self.wrong("pair", ("add", "see"), (("see",), ("twice",), ("add",)), CHAIN)
        self.wrong("pair", ("add", "twice"), (("twice",), ("add",), ("see",)), CHAIN)
        self.wrong("pair", ("twice", "see"), (("add",), ("see",), ("twice",)), CHAIN)
        # add is before see by a chain only.
        self.wrong("pair", ("add", "see"), (("see", "twice"), ("add",)), CHAIN)
        program = APART[:2] + ((("setd", "seta"),), 1)
        self.wrong("pair", ("setd", "seta"), (("seta", "setb", "setc"), ("setd",)), program)
        self.same(lets_layers(program, (("seta", "setb", "setc", "setd"),)), 1)
        self.same(lets_layers(program, (("setc", "setd"), ("seta", "setb"))), 2)

    def test_apart(self):
        self.wrong("apart", ("add", "see"), (("add", "see", "twice"),))
        self.wrong("apart", ("add", "twice"), (("see",), ("add", "twice")))
        self.wrong("apart", ("see", "twice"), (("see", "twice"), ("add",)))
        # Ascending among all pairs, whatever the order of the layers is.
        program = (FOUR_CELLS, (COPY, SET_A, ("zcopy", 1, (("d", "c"),)), SET_C), (), 1)
        program = program[:1] + (tuple(sorted(program[1])),) + program[2:]
        self.wrong("apart", ("copy", "seta"), (("setc", "zcopy"), ("copy", "seta")), program)
        self.wrong("apart", ("setc", "zcopy"), (("setc", "zcopy"), ("copy",), ("seta",)), program)
        self.same(lets_layers(program, (("copy", "zcopy"), ("seta", "setc"))), 2)

    def test_two_errors(self):
        self.wrong("shape", -1, ((), ("Add",)))
        self.wrong("layer", 1, (("add",), ()), PAIRED)
        self.wrong("layer", 0, (("other",), ("see",), ("add",)), PAIRED)
        self.wrong("rules", -1, (("see",), ("add",)), PAIRED)
        self.wrong("rules", -1, (("add", "see"),))
        self.wrong("pair", ("twice", "see"), (("see",), ("add", "twice")), (PROG[:2] + ((("twice", "see"),), 1)))
        self.wrong("layer", 0, (("see", "add"), ()))

    def test_layerings_with_any_part_changed(self):
        program = (FOUR_CELLS, (COPY, SET_A, SET_C), (("setc", "copy"),), 1)
        for right, which in (((("setc",), ("copy",), ("seta",)), program), ((("copy", "setc"), ("seta",)), program),
                             ((("twice",), ("add",), ("see",)), PROG), ((("add",), ("twice",), ("see",)), CHAIN)):
            self.same(lets_layers(which, right), len(right))
            for thing in changed_once(right):
                self.same(self.verdict(lets_layers, which, thing), layer_verdict(which, thing))

    def test_all_layerings_of_any_programs(self):
        words = set()
        for program in some_programs(34, 25):
            for thing in layerings(tuple(rule[0] for rule in program[1])):
                found = self.verdict(lets_layers, program, thing)
                self.same(found, layer_verdict(program, thing))
                words.add(found[0])
        self.assertEqual(words, {"accepted", "pair", "apart"})


class RunLayersTest(Case):
    def test_by_name_and_without_rules(self):
        self.same(run_layers(program=NOTHING, state=(), layers=(), codes=()), ())
        self.same(run_layers(NOTHING, (), (), ()), ())

    def test_layers_run_one_after_the_other(self):
        codes = (CODE, code_of(PROG, "see"), code_of(PROG, "twice"))
        self.same(run_layers(PROG, (0, 1), (("twice",), ("add",), ("see",)), codes), (1, 3))
        self.same(run_layers(PROG, (0, 1), (("add",), ("twice",), ("see",)), codes), (0, 2))
        self.same(run_layers(PROG, (0, 1), (("see",), ("add",), ("twice",)), codes, (0,), (), (0, 0, 0)), (0, 2))

    def test_codes_in_the_order_of_the_rules_numbered_in_the_layer(self):
        """The codes are not good, so the schedules tell: those of a layer are numbered in its order."""
        first = (("load", 0, "x"), ("const", 1, 1), ("store", "x", 1))
        last = (("load", 0, "x"), ("const", 1, 2), ("store", "x", 1))
        codes = (first, (), last)
        layers = (("add", "twice"), ("see",))
        for schedule, end in (((), 2), ((0, 0), 2), ((1, 1), 1), ((0, 1, 1), 1), ((1, 0, 0), 2), ((1,), 2)):
            self.same(run_layers(PROG, (0, 0), layers, codes, schedule), (0, end))
            self.same(run_layers(PROG, (0, 0), layers, codes, schedule),
                      slowly_interleaved(CELLS, (0, 0), (first, last), schedule)[0])

    def test_schedules_for_all_for_some_and_for_none(self):
        first = (("load", 0, "x"), ("const", 1, 1), ("store", "x", 1))
        last = (("load", 0, "x"), ("const", 1, 2), ("store", "x", 1))
        cells = (("x", 0, 0, 3, True, True, 0),)
        rules = tuple((name, 1, (("x", 1),)) for name in "abcd")
        program, layers, codes = (cells, rules, (), 1), (("a", "b"), ("c", "d")), (first, last, last, first)
        for schedules in ((), ((),), ((1, 1),), ((1, 1), ()), ((), (1, 1)), ((1, 1), (0, 0)), ((0,), (1, 0, 0))):
            whole = schedules + ((),) * (2 - len(schedules))
            middle = slowly_interleaved(cells, (3,), (first, last), whole[0])[0]
            end = slowly_interleaved(cells, middle, (last, first), whole[1])[0]
            self.same(run_layers(program, (3,), layers, codes, *schedules), end)

    def test_any_interleaving_of_good_code(self):
        """(L5), from each state: the state behind any legal order that does the layers one after the other."""
        chance = chance_of(35)
        programs = [PROG, CHAIN, APART, (FOUR_CELLS, (COPY, SET_A, SET_C), (("setc", "copy"),), 1)] + some_programs(36, 40)
        for program in programs:
            layers = layers_of(program)
            codes = tuple(code_of(program, rule[0]) for rule in program[1])
            names = [rule[0] for rule in program[1]]
            slowly = Slowly(program)
            orders = [order for order in slowly.orders(slowly.names)
                      if [set(layer) for layer in layers] == [set(part) for part in self.parts(order, layers)]]
            self.assertNotEqual(orders, [])
            for state in all_states(program):
                ends = {run_states(program, state, *order)[-1] for order in orders}
                self.assertEqual(len(ends), 1)
                for _ in range(3):
                    schedules = [tuple(chance.randrange(len(layer)) for _ in range(chance.randint(0, 9))) for layer in layers]
                    schedules = schedules[:chance.randint(0, len(schedules))]
                    before = repr((program, state, layers, codes, schedules))
                    self.same(run_layers(program, state, layers, codes, *schedules), min(ends))
                    self.assertEqual(repr((program, state, layers, codes, schedules)), before)
            for start in list(starts_of(program))[:3]:
                if is_settled(program):
                    end = run_layers(program, start, layers, codes)
                    self.same(shown_in(program, end), result_of(program, start, slowly.orders(names)[0]))

    def parts(self, order, layers):
        left, found = list(order), []
        for layer in layers:
            found.append(left[:len(layer)])
            left = left[len(layer):]
        return found

    def test_all_full_schedules_of_good_code(self):
        for program in (APART, (FOUR_CELLS, (COPY, SET_C, SET_D), (), 1), (NINE, free_rules(1), (), 1)):
            codes = tuple(code_of(program, rule[0]) for rule in program[1])[:3]
            names = [rule[0] for rule in program[1]][:3]
            for state in list(all_states(program))[::3]:
                end = run_states(program, state, *names)[-1]
                for schedule in schedules_of(program[0], state, codes):
                    self.same(interleaved(program[0], state, codes, schedule), end)
