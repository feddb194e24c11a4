"""[52] to [54], [56], [63] and lets_code."""

from orderless.codechecker import lets_code
from orderless.coding import code_of
from orderless.effects import reads_of
from orderless.errors import InvalidPaper, UnknownRule
from orderless.interleaving import interleaved, schedules_of
from orderless.pairings import are_apart
from orderless.rules import behind
from orderless.states import all_states
from tests.samples import (
    CELLS, CODE, NOTHING, ODD_VALUES, PROG, TABLES, Case, chance_of, changed_once, some_code, some_instruction, some_programs,
)
from tests.slowcode import code_verdict
from tests.test_codekinds import WRONG

XY = (("x", 0, 0, 2, False, True, 1), ("y", 0, 0, 2, False, True, 0))
XT = (("i", 0, 0, 1, True, False, 0), ("j", 0, 0, 1, True, False, 0), ("t", 2, 0, 1, False, True, 0), ("y", 0, 0, 2, False, True, 0))


# Loads x, and ends if x is at most 2; what stands behind it is done from state 3, and from state 7.
ABOVE_TWO = (("load", 0, "x"), ("const", 1, 2), ("do", "<", 2, 1, 0), ("unless", 2, 5), ("jump", 6), ("end",))


def behind_code(*parts):
    """Codes one behind the other; the jumps of each lead to where they led in it."""
    whole = ()
    for code in parts:
        moved = [part[:-1] + (part[-1] + len(whole),) if part[0] in ("jump", "unless") else part for part in code]
        whole = whole + tuple(moved)
    return whole


class CodeCheckerTest(Case):
    def wrong(self, word, at, code, program=PROG, rule="add"):
        self.refuses(InvalidPaper, {"word": word, "at": at}, lets_code, program, rule, code)

    def right(self, code, program=PROG, rule="add"):
        self.same(lets_code(program, rule, code), len(code))

    def test_the_examples(self):
        self.right(CODE)
        self.same(lets_code(PROG, "add", CODE), 7)
        self.wrong("end", 0, CODE, rule="twice")

    def test_by_name(self):
        self.same(lets_code(thing=CODE, rule="add", program=PROG), 7)
        self.refuses(InvalidPaper, {"word": "shape", "at": -1}, lets_code, thing=None, program=PROG, rule="see")

    def test_shape(self):
        for thing in ODD_VALUES:
            if thing != ():
                self.wrong("shape", -1, thing)
            self.wrong("shape", -1, (thing,))
        for instruction in WRONG:
            self.wrong("shape", -1, (instruction,))
            self.wrong("shape", -1, CODE + (instruction,))
            # Before an unknown cell, a jump back, and a fault.
            self.wrong("shape", -1, (("load", 0, "none"), ("jump", 0), ("do", "div", 0, 0, 0), instruction))
        self.wrong("shape", -1, list(CODE))

    def test_cells(self):
        for code in ((), (("end",),), CODE):
            at = len(code)
            for instruction in (("load", 0, "z"), ("store", "xx", 0), ("load", 0, ("x", 0)), ("store", ("big", 1), 0),
                                ("loadat", 0, "x", 0), ("storeat", "big", 0, 0), ("loadat", 0, "t", 0), ("load", 0, ("t", 0))):
                self.wrong("cell", at, code + (instruction, ("load", 0, "zz")))
        for instruction in (("load", 0, "t"), ("store", "t", 0), ("load", 0, ("t", 2)), ("store", ("t", 10 ** 59), 0),
                            ("loadat", 0, "i", 0), ("storeat", "i", 0, 0), ("load", 0, ("i", 0)), ("loadat", 0, "tt", 0)):
            self.wrong("cell", 1, (("end",), instruction), TABLES, "move")

    def test_a_table_of_one_cell(self):
        program = ((("t", 1, 0, 1, True, True, 0),), (("r", 1, ((("t", 0), ("-", 1, ("at", "t", 0))),)),), (), 1)
        for load in (("loadat", 1, "t", 0), ("load", 1, ("t", 0))):
            for store in (("storeat", "t", 0, 2), ("store", ("t", 0), 2)):
                self.right((load, ("const", 2, 1), ("do", "-", 2, 2, 1), store), program, "r")

    def test_jumps(self):
        for instruction in (("jump", 0), ("unless", 0, 0), ("jump", 3), ("unless", 31, 3), ("jump", 10 ** 59)):
            self.wrong("jump", 0, (instruction, ("end",)))
        for index in (0, 1, 2, 5, 99):
            self.wrong("jump", 2, (("end",), ("end",), ("jump", index), ("end",)))
            self.wrong("jump", 2, (("end",), ("end",), ("unless", 5, index), ("end",)))
        self.right(CODE[:5] + (("unless", 1, 8),) + CODE[6:] + (("jump", 8),))

    def test_which_comes_first_before_running(self):
        self.wrong("cell", 0, (("load", 0, "z"), ("jump", 0)))
        self.wrong("jump", 0, (("jump", 0), ("load", 0, "z")))
        self.wrong("cell", 1, (("do", "div", 0, 0, 0), ("load", 0, "z")))
        self.wrong("jump", 1, (("store", "big", 0), ("jump", 1)))

    def test_faults(self):
        self.wrong("fault", (0, 0), (("do", "div", 0, 0, 0),))
        self.wrong("fault", (0, 1), behind_code((("load", 0, "x"), ("do", "mod", 1, 0, 0)), CODE))
        self.wrong("fault", (0, 7), CODE + (("do", "mod", 1, 0, 31),))
        self.wrong("fault", (3, 6), ABOVE_TWO + (("do", "div", 0, 0, 31),), rule="see")
        for key in (2, -1):
            for touching in (("loadat", 5, "t", 1), ("storeat", "t", 1, 5)):
                self.wrong("fault", (0, 1), (("const", 1, key), touching), TABLES, "move")
        # The key is i, which has values up to 3: the first state with i = 2 has number 72.
        resting = (TABLES[0], (("r", 0, (("i", 1),)),), (), 1)
        self.wrong("fault", (72, 1), (("load", 0, "i"), ("loadat", 1, "t", 0)), resting, "r")

    def test_twice(self):
        self.wrong("twice", (0, 1), (("load", 0, "x"), ("load", 0, "x")))
        self.wrong("twice", (0, 7), CODE[:6] + (("store", "x", 0), ("load", 5, "x")))
        self.wrong("twice", (0, 1), (("load", 3, "x"),) + CODE)
        self.wrong("twice", (0, 2), (("load", 0, ("t", 0)), ("const", 1, 0), ("loadat", 2, "t", 1)), TABLES, "same")
        self.wrong("twice", (3, 6), ABOVE_TWO + (("load", 0, "x"),), rule="see")
        self.wrong("twice", (3, 7), ABOVE_TWO + (("load", 0, "big"), ("load", 0, "big")), rule="see")

    def test_late(self):
        self.wrong("late", (0, 7), CODE + (("load", 5, "big"),))
        self.wrong("late", (3, 7), ABOVE_TWO + (("store", "big", 2), ("load", 0, "big")), rule="see")
        self.wrong("late", (0, 2), (("const", 0, 1), ("store", ("t", 1), 0), ("loadat", 0, "t", 1)), TABLES, "same")

    def test_stores(self):
        self.wrong("store", (0, 0), (("store", "big", 0),))
        self.wrong("store", (0, 0), (("store", "x", 0),), rule="see")
        self.wrong("store", (0, 2), (("load", 0, "big"), ("load", 1, "x"), ("store", "big", 0)))
        self.wrong("store", (0, 7), CODE + (("store", "x", 0),))
        self.wrong("store", (3, 6), ABOVE_TWO + (("store", "x", 0),), rule="see")
        self.wrong("store", (3, 7), ABOVE_TWO + (("store", "big", 2), ("store", "big", 2)), rule="see")
        # Storing the same cell twice, the second time by its key.
        self.wrong("store", (0, 2), (("const", 0, 1), ("store", ("t", 1), 0), ("storeat", "t", 0, 0)), TABLES, "same")

    def test_range(self):
        self.wrong("range", (3, 3), CODE[:3] + (("store", "x", 0),))
        self.wrong("range", (0, 2), (("load", 0, "x"), ("const", 1, -1), ("store", "x", 1)))
        self.wrong("range", (0, 1), (("const", 1, 2), ("store", "big", 1)), rule="see")
        self.right((("load", 0, "x"), ("const", 1, 1), ("do", "+", 0, 0, 1), ("const", 1, 3), ("do", "least", 0, 0, 1), ("store", "x", 0)))

    def test_end(self):
        self.wrong("end", 0, ())
        self.wrong("end", 3, (), rule="see")
        self.wrong("end", 1, (), rule="twice")
        self.wrong("end", 0, CODE[:5])
        self.wrong("end", 0, behind_code((("end",),), CODE))
        self.wrong("end", 0, (("const", 0, 1), ("store", "big", 0)), rule="see")
        self.wrong("end", 3, ABOVE_TWO, rule="see")
        self.wrong("end", 3, ABOVE_TWO + (("store", "big", 31),), rule="see")
        self.right(ABOVE_TWO + (("store", "big", 2),), rule="see")

    def test_two_errors_at_one_instruction(self):
        # A second load behind a store; a second store, out of the range; a store to no cell of the rule, out of the range.
        self.wrong("twice", (0, 7), CODE + (("load", 0, "x"),))
        self.wrong("store", (0, 8), CODE + (("const", 0, 9), ("store", "x", 0)))
        self.wrong("store", (0, 1), (("const", 0, 9), ("store", "big", 0)))

    def test_the_first_instruction_and_the_first_state_count(self):
        self.wrong("store", (0, 0), (("store", "big", 0), ("do", "div", 0, 0, 0), ("load", 0, "x"), ("load", 0, "x")))
        self.wrong("fault", (0, 0), (("do", "div", 0, 0, 0), ("store", "big", 0)))
        self.wrong("range", (0, 1), (("const", 0, 9), ("store", "x", 0), ("load", 0, "x")))
        # In state 0 the end is wrong, in state 3 the value is out of the range.
        self.wrong("end", 0, (("load", 0, "x"), ("const", 1, 3), ("do", "*", 1, 1, 0), ("const", 2, 1), ("do", "div", 1, 1, 2), ("store", "x", 1)))

    def test_the_bad_codes_of_56(self):
        """Each of them does alone what its rule does, and is refused; beside an apart rule it goes wrong."""
        x, y, t = "x", "y", "t"
        flip = ("other", 1, ((("t", 0), ("-", 1, ("at", "t", 0))),))
        up = (("other", 1, (("x", ("mod", ("+", "x", 1), 3)),)), ("other", 1, (("y", ("mod", ("+", "y", 1), 3)),)))
        same_loads = (("load", 0, x), ("load", 1, x), ("do", "=", 2, 0, 1), ("const", 3, 2), ("do", "-", 3, 3, 2), ("store", y, 3))
        lost = (("load", 0, y), ("const", 1, 1), ("store", x, 1), ("store", y, 0))
        at_loads = (("load", 0, "i"), ("loadat", 1, t, 0), ("loadat", 2, t, 0), ("do", "=", 2, 1, 2), ("const", 3, 2),
                    ("do", "-", 3, 3, 2), ("store", y, 3))
        seven = (("const", 0, 0), ("store", y, 0), ("const", 0, 1), ("store", y, 0))
        two_keys = (("load", 0, "i"), ("load", 4, "j"), ("do", "=", 1, 0, 4), ("unless", 1, 10), ("loadat", 1, t, 0), ("loadat", 2, t, 4),
                    ("do", "=", 2, 1, 2), ("const", 3, 2), ("do", "-", 3, 3, 2), ("store", y, 3))
        at_equal = ("=", ("at", t, "i"), ("at", t, "i"))
        cases = (
            (XY, ("r", 1, ((y, ("if", ("=", x, x), 1, 2)),)), up[0], same_loads, "twice", (0, 1)),
            (XY, ("r", 1, ((x, 1),)), up[1], lost, "store", (0, 3)),
            (XT, ("r", 1, ((y, ("if", at_equal, 1, 2)),)), flip, at_loads, "twice", (0, 2)),
            (XT, ("r", ("=", "i", "j"), ((y, ("if", ("=", ("at", t, "i"), ("at", t, "j")), 1, 2)),)), flip, two_keys, "twice", (0, 5)),
            (XY, ("r", 1, ((y, 1),)), ("other", 1, ((x, y),)), seven, "store", (0, 3)),
        )
        for cells, rule, other, code, word, at in cases:
            program = (cells, (other, rule), (), 1)
            for state in all_states(program):
                self.same(interleaved(cells, state, (code,), ()), behind(cells, rule, state))
            self.wrong(word, at, code, program, "r")
            if word == "twice" or x in code[2]:
                self.assertTrue(are_apart(program, "other", "r"))
            beside = code_of(program, "other")
            right = [{behind(cells, other, behind(cells, rule, state)), behind(cells, rule, behind(cells, other, state))}
                     for state in all_states(program)]
            ends = [{interleaved(cells, state, (code, beside), schedule) for schedule in schedules_of(cells, state, (code, beside))}
                    for state in all_states(program)]
            self.assertTrue(any(found - told for found, told in zip(ends, right)))

    def test_code_of_other_rules(self):
        for program in [PROG, TABLES] + some_programs(24, 15):
            codes = {rule[0]: code_of(program, rule[0]) for rule in program[1]}
            for name in codes:
                for other, code in codes.items():
                    self.same(self.verdict(lets_code, program, name, code), code_verdict(program, name, code))

    def test_good_code_that_loads_more(self):
        self.assertNotIn(0, reads_of(PROG, "add"))
        self.right(behind_code((("load", 9, "big"),), CODE))
        self.right(behind_code((("load", 1, "big"), ("end",))), (CELLS, (("r", 0, (("x", 1),)),), (), 1), "r")

    def test_good_code_that_stores_an_old_value_or_nothing(self):
        # see stores what big has, or 1; twice stores x where it rests.
        self.right((("load", 0, "x"), ("load", 1, "big"), ("const", 2, 2), ("do", "<", 2, 2, 0), ("do", "most", 1, 1, 2), ("store", "big", 1)),
                   rule="see")
        self.right((("load", 0, "x"), ("const", 1, 1), ("do", "<=", 2, 0, 1), ("do", "+", 2, 2, 1), ("do", "*", 0, 0, 2), ("store", "x", 0)),
                   rule="twice")
        self.right((("load", 0, "x"), ("const", 1, 1), ("do", "=", 2, 0, 1), ("unless", 2, 6), ("do", "+", 0, 0, 1), ("store", "x", 0)),
                   rule="twice")
        self.right((), (CELLS, (("r", 1, (("x", "x"),)),), (), 1), "r")
        self.right((("end",),), (CELLS, (("r", 0, (("x", 1),)),), (), 1), "r")
        self.right((("jump", 1),), (CELLS, (("r", 0, (("x", 1),)),), (), 1), "r")
        self.wrong("store", (0, 1), (("load", 0, "x"), ("store", "x", 0)), (CELLS, (("r", 1, (("x", "x"),)),), (), 1), "r")

    def test_pairs_and_starts_do_not_matter(self):
        for program in (PROG[:2] + ((("add", "see"),), 1), PROG[:3] + (0,), PROG[:3] + (("=", "x", 1),)):
            self.right(CODE, program)
            self.wrong("end", 0, CODE, program, "twice")
            self.wrong("range", (3, 3), CODE[:3] + (("store", "x", 0),), program)

    def test_code_with_any_part_changed(self):
        for rule in ("add", "twice", "see"):
            for thing in changed_once(CODE):
                self.same(self.verdict(lets_code, PROG, rule, thing), code_verdict(PROG, rule, thing))
        for name in ("see", "twice"):
            for thing in changed_once(code_of(PROG, name)):
                self.same(self.verdict(lets_code, PROG, name, thing), code_verdict(PROG, name, thing))

    def test_any_code(self):
        chance = chance_of(25)
        words = {}
        for program in some_programs(26, 60):
            name = chance.choice(program[1])[0]
            for _ in range(12):
                code = some_code(chance, program[0], chance.randint(0, 6))
                if chance.random() < 0.5:
                    good = list(code_of(program, name))
                    k = chance.randrange(len(good))
                    good[k] = some_instruction(chance, program[0], k, len(good))
                    code = tuple(good)
                found = self.verdict(lets_code, program, name, code)
                self.same(found, code_verdict(program, name, code))
                words[found[0]] = words.get(found[0], 0) + 1
        self.assertEqual(set(words), {"accepted", "fault", "twice", "late", "store", "range", "end"})

    def test_unknown_rules(self):
        self.unknown(lets_code, PROG, 1, CODE)
        self.unknown(lets_code, PROG, 1, None)
        self.unknown(lets_code, NOTHING, 1, ())
        self.refuses(UnknownRule, {"name": "x"}, lets_code, PROG, "x", "no code")
