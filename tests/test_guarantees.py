"""(L1) to (L9) of [9], its special cases, and the limits of [10], over the whole program."""

from itertools import combinations, product

from orderless.codechecker import lets_code
from orderless.coding import code_of
from orderless.deciding import decided, settles, unsettled_choice
from orderless.effectchecker import lets_effects
from orderless.effectpapers import effect_paper
from orderless.effects import changes_of, reads_of
from orderless.errors import InvalidStep
from orderless.layering import layers_of, lets_layers, run_layers
from orderless.leaving import left_out, lets_left, lets_matter, matter_paper, matters
from orderless.linereadings import read_log
from orderless.noticing import noticed_exchanges, open_pairs
from orderless.openchecker import lets_open, lets_pair
from orderless.openpapers import open_paper, pair_paper
from orderless.orders import first_order, legal_orders, unordered_pairs
from orderless.pairings import are_apart, commute
from orderless.programchecker import lets_program
from orderless.programreadings import program_read
from orderless.programtexts import program_text
from orderless.recordchecker import lets_record
from orderless.records import again, record_of
from orderless.replaying import replayed
from orderless.running import is_settled, outcomes_of, result_of, shown_in
from orderless.states import count_states, starts_of
from orderless.steplines import log_lines
from orderless.touchchecker import lets_touch
from orderless.touchpapers import touch_paper
from orderless.workshops import Workshop
from tests.samples import CELLS, CHAIN, NOTHING, PAIRED, PROG, TABLES, Case, free_rules, some_programs

PROGRAMS = [PROG, PAIRED, CHAIN, TABLES, NOTHING] + some_programs(81, 25)

# As many states, cells and rules as the limits allow; every rule looks at three cells and assigns two.
NAMES = "abcdefgh"
WIDE_CELLS = tuple((name, 0, 0, 1, name in "abcd", name > "e", 0) for name in NAMES) + (("t", 2, 5, 5, False, True, 5),)
WIDE_RULES = tuple(
    (name, ("<", "a", 2), ((NAMES[k], ("mod", ("+", ("*", NAMES[k + 1], 3), ("+", NAMES[(k + 3) % 8], k)), 2)),
                           (NAMES[k + 2], ("mod", ("+", NAMES[k], NAMES[(k + 5) % 8]), 2))))
    for k, name in enumerate(("p", "q", "r", "s", "t", "u")))
WIDE = (WIDE_CELLS, WIDE_RULES, (("p", "q"), ("q", "r")), ("or", "a", ("not", "b")))


class GuaranteesTest(Case):
    def test_reading_a_written_program(self):
        for program in PROGRAMS + [WIDE]:
            self.same(program_read(program_text(program)), program)

    def test_apart_rules_commute_and_commuting_rules_are_not_noticed(self):
        for program in PROGRAMS:
            noticed = {exchange[1:] for exchange in noticed_exchanges(program)}
            for one, other in combinations([rule[0] for rule in program[1]], 2):
                self.assertTrue(commute(program, one, other) or not are_apart(program, one, other))
                self.assertFalse(commute(program, one, other) and (one, other) in noticed)

    def test_the_one_least_set_of_pairs(self):
        for program in PROGRAMS:
            pairs = open_pairs(program)
            self.same([settles(program, *pairs), is_settled(program)], [True, pairs == ()])
            for pair in pairs:
                others = [other for other in unordered_pairs(program) if other != pair]
                choice = unsettled_choice(program, *others)
                self.assertIs(is_settled(decided(program, *choice)), False)

    def test_layers(self):
        for program in PROGRAMS:
            for choice in product(*[(pair, pair[::-1]) for pair in open_pairs(program)]):
                try:
                    settled = decided(program, *choice)
                except InvalidStep:
                    continue
                layers, codes = layers_of(settled), tuple(code_of(settled, rule[0]) for rule in settled[1])
                for start in list(starts_of(settled))[:4]:
                    end = run_layers(settled, start, layers, codes, *[(k, 0, k) for k, _ in enumerate(layers) if k == 0])
                    self.same((shown_in(settled, end),), outcomes_of(settled, start))

    def test_leaving_out(self):
        for program in PROGRAMS:
            names, left = left_out(program)
            for start in list(starts_of(program))[:3]:
                for order in legal_orders(program):
                    rest = tuple(name for name in order if name not in names)
                    self.same(result_of(program, start, order), result_of(left, start, rest))

    def test_making_again(self):
        for program in PROGRAMS:
            starts, order = list(starts_of(program))[:5], first_order(program)
            for start, other in product(starts, repeat=2):
                self.same(again(program, record_of(program, order, start), other)[0], record_of(program, order, other))

    def test_workshops(self):
        for program in PROGRAMS:
            workshop = Workshop.of(program)
            self.same([workshop.program, workshop.open_pairs, workshop.is_settled], [program, open_pairs(program), is_settled(program)])
            workshop.decide_by(*first_order(program))
            self.same(workshop.open_pairs, ())
            for other in (replayed(workshop.log()), replayed(read_log(log_lines(workshop.log())))):
                self.assertTrue(other == workshop)

    def test_papers_are_accepted(self):
        for program in PROGRAMS:
            self.same(lets_program(program), count_states(program))
            self.same(lets_open(program, open_paper(program)), open_pairs(program))
            self.same(lets_layers(program, layers_of(program)), len(layers_of(program)))
            self.same(lets_left(program, left_out(program)[0]), left_out(program)[1])
            for one, other in unordered_pairs(program):
                word = "open" if (one, other) in open_pairs(program) else "closed"
                self.same(lets_pair(program, one, other, pair_paper(program, one, other)), word)
            for rule in program[1]:
                name = rule[0]
                self.same(lets_effects(program, name, effect_paper(program, name)), (reads_of(program, name), changes_of(program, name)))
                self.same(lets_code(program, name, code_of(program, name)), len(code_of(program, name)))
                if matters(program, name):
                    self.same(lets_matter(program, name, matter_paper(program, name)), True)
                for other in program[1]:
                    paper = touch_paper(program, name, other[0])
                    if paper is not None:
                        self.same(lets_touch(program, name, other[0], paper), paper[1])
            for start in list(starts_of(program))[:3]:
                order = first_order(program)
                self.same(lets_record(program, record_of(program, order, start)), result_of(program, start, order))


class SpecialCasesTest(Case):
    def test_without_rules(self):
        for program in (NOTHING, (CELLS, (), (), 1)):
            self.same([list(legal_orders(program)), layers_of(program), left_out(program)], [[()], (), ((), program)])
            self.same([is_settled(program), open_pairs(program)], [True, ()])

    def test_a_rule_that_always_rests(self):
        rest = ("aa", ("-", "x", "x"), (("x", 1), ("big", 1)))
        program = (CELLS, (rest,) + PROG[1], (), 1)
        self.same([are_apart(program, "aa", rule[0]) for rule in program[1]], [True] * 4)
        self.same([matters(program, "aa"), len(layers_of(program))], [False, 3])

    def test_without_starts(self):
        program = PROG[:3] + (0,)
        self.same([is_settled(program), open_pairs(program), [matters(program, rule[0]) for rule in program[1]]], [True, (), [False] * 3])
        self.same([Workshop.of(program).is_settled, Workshop.of(program).result], [True, None])


class LimitsTest(Case):
    def test_a_program_at_the_limits(self):
        self.same(lets_program(WIDE), 256)
        layers = layers_of(WIDE)
        self.same(lets_layers(WIDE, layers), len(layers))
        codes = tuple(code_of(WIDE, rule[0]) for rule in WIDE[1])
        for rule, code in zip(WIDE[1], codes):
            self.same(lets_code(WIDE, rule[0], code), len(code))
        self.same(lets_left(WIDE, left_out(WIDE)[0]), left_out(WIDE)[1])
        workshop = Workshop.of(WIDE)
        workshop.set_inputs((1, 0, 1, 1))
        workshop.decide_by(*first_order(WIDE))
        self.same([workshop.is_settled, workshop.open_pairs], [True, ()])
        self.same(workshop.result, result_of(WIDE, (1, 0, 1, 1, 0, 0, 0, 0, 5, 5), first_order(WIDE)))
        settled = workshop.decided
        layers = layers_of(settled)
        for start in list(starts_of(settled)):
            self.same((shown_in(settled, run_layers(settled, start, layers, codes)),), outcomes_of(settled, start))
        self.assertTrue(replayed(workshop.log()) == workshop)

    def test_all_orders_open(self):
        program = ((("x", 0, 0, 255, True, True, 0),), free_rules(6), (), 1)
        workshop = Workshop.of(program)
        workshop.decide_by(*"fbdace")
        self.same([workshop.is_settled, workshop.counts()], [True, (1, 1)])
        self.same(len(layers_of(workshop.decided)), 6)
