"""[7], [28], [29], [30]: the checker of effect papers."""

from orderless.effectchecker import lets_effects
from orderless.effectpapers import effect_paper
from orderless.errors import InvalidPaper, UnknownRule
from orderless.rules import assigned
from orderless.states import all_states
from tests.samples import (CELLS, ODD_VALUES, PROG, SMALL, TABLES, Case, changed_once, some_programs)

SEEN = (((1, 2, 3),), ((0, 3),))

# x and y get each other's values, if they differ.
TWO = (("x", 0, 0, 1, True, True, 0), ("y", 0, 0, 1, True, True, 0))
TURN = ((TWO), (("turn", 1, (("x", "y"), ("y", "x"))),), (), 1)
TURNED = (((0, 0, 2), (1, 0, 1)), ((0, 1), (1, 2)))


def is_row(thing, many):
    return type(thing) is tuple and len(thing) == many and all(type(part) is int and part >= 0 for part in thing)


def slow_verdict(program, name, thing):
    """The verdict as the document states it, without a look at any function of the checker."""
    cells, rules = program[:2]
    rule = [rule for rule in rules if rule[0] == name][0]
    states = list(all_states(program))
    entries = [assigned(cells, rule, state) for state in states]
    width = len(states[0])
    if type(thing) is not tuple or len(thing) != 2 or not all(type(part) is tuple for part in thing):
        return ("shape", -1)
    if not all(is_row(row, 3) for row in thing[0]) or not all(is_row(row, 2) for row in thing[1]):
        return ("shape", -1)

    def differing(one, other):
        return [k for k in range(width) if states[one][k] != states[other][k]]

    def changed(number):
        return [k for k, value in entries[number] or () if states[number][k] != value]

    for k, (cell, one, other) in enumerate(thing[0]):
        if cell >= width or (k and cell <= thing[0][k - 1][0]):
            return ("cell", (0, k))
        if max(one, other) >= len(states) or differing(one, other) != [cell]:
            return ("state", (0, k))
        if entries[one] == entries[other]:
            return ("same", (0, k))
    for k, (cell, number) in enumerate(thing[1]):
        if cell >= width or (k and cell <= thing[1][k - 1][0]):
            return ("cell", (1, k))
        if number >= len(states):
            return ("state", (1, k))
        if cell not in changed(number):
            return ("same", (1, k))
    every = range(len(states))
    read = sorted({differing(one, other)[0] for one in every for other in every
                   if len(differing(one, other)) == 1 and entries[one] != entries[other]})
    changes = sorted({k for number in every for k in changed(number)})
    told = [[row[0] for row in rows] for rows in thing]
    for word, cells_there, rows in (("reads", read, told[0]), ("changes", changes, told[1])):
        for cell in cells_there:
            if cell not in rows:
                return (word, cell)
    return ("accepted", (tuple(told[0]), tuple(told[1])))


class EffectCheckerTest(Case):
    def wrong(self, word, at, thing, program=PROG, rule="see"):
        self.refuses(InvalidPaper, {"word": word, "at": at}, lets_effects, program, rule, thing)

    def test_the_examples(self):
        self.same(lets_effects(PROG, "see", SEEN), ((1,), (0,)))
        self.wrong("same", (0, 0), (((1, 0, 1),), ((0, 3),)))
        self.wrong("reads", 1, ((), ((0, 3),)))

    def test_by_name(self):
        self.same(lets_effects(program=PROG, rule="see", thing=SEEN), ((1,), (0,)))
        self.refuses(InvalidPaper, {"word": "shape", "at": -1}, lets_effects, thing=None, rule="see", program=PROG)

    def test_other_papers(self):
        self.same(lets_effects(PROG, "see", (((1, 3, 2),), ((0, 3),))), ((1,), (0,)))
        self.same(lets_effects(PROG, "see", (((1, 7, 4),), ((0, 3),))), ((1,), (0,)))
        self.same(lets_effects(TURN, "turn", TURNED), ((0, 1), (0, 1)))

    def test_shape(self):
        for thing in ODD_VALUES + (
                list(SEEN), (list(SEEN[0]), SEEN[1]), (SEEN[0], list(SEEN[1])), SEEN + ((),), SEEN[:1],
                (([1, 2, 3],), ((0, 3),)), (((1, 2, 3),), ([0, 3],)), (((1, 2),), ((0, 3),)),
                (((1, 2, 3),), ((0, 3, 3),)), (((1, 2, 3, 3),), ((0, 3),)), (((1, 2, 3),), ((0,),)),
                (((True, 2, 3),), ((0, 3),)), (((1, 2, 3),), ((False, 3),)), (((1, 2, -3),), ((0, 3),)),
                (((1, 2, 3),), ((-1, 3),)), (((1, 2, "3"),), ((0, 3),)), (((1, 2, None),), ((0, 3),)), ((1, 2, 3), (0, 3)),
                (((1, 2, 3), 1), ((0, 3),)), ("", ()), ((), "")):
            self.wrong("shape", -1, thing)
        one = (CELLS, (("see", 0, (("big", 1),)),), (), 1)
        self.same(lets_effects(one, "see", ((), ())), ((), ()))
        for thing in ([], ((), []), ([], ()), ((), (), ())):
            self.wrong("shape", -1, thing, one)

    def test_true_and_false_are_not_numbers(self):
        self.same(lets_effects(TURN, "turn", TURNED), ((0, 1), (0, 1)))
        for k in (0, 1):
            for i, row in enumerate(TURNED[k]):
                for j, number in enumerate(row):
                    if number < 2:
                        rows = TURNED[k][:i] + (row[:j] + (bool(number),) + row[j + 1:],) + TURNED[k][i + 1:]
                        self.wrong("shape", -1, (rows, TURNED[1]) if k == 0 else (TURNED[0], rows), TURN, "turn")

    def test_cells(self):
        self.wrong("cell", (0, 0), (((2, 2, 3),), ((0, 3),)))
        self.wrong("cell", (0, 0), (((10 ** 59, 2, 3),), ((0, 3),)))
        self.wrong("cell", (1, 0), (((1, 2, 3),), ((2, 3),)))
        self.wrong("cell", (0, 1), (TURNED[0][:1] * 2, TURNED[1]), TURN, "turn")
        self.wrong("cell", (0, 1), (TURNED[0][::-1], TURNED[1]), TURN, "turn")
        self.wrong("cell", (0, 1), (((0, 0, 2), (2, 0, 1)), TURNED[1]), TURN, "turn")
        self.wrong("cell", (1, 1), (TURNED[0], TURNED[1][:1] * 2), TURN, "turn")
        self.wrong("cell", (1, 1), (TURNED[0], TURNED[1][::-1]), TURN, "turn")
        self.wrong("cell", (1, 1), (TURNED[0], ((0, 1), (2, 2))), TURN, "turn")
        self.wrong("cell", (0, 2), (TURNED[0] + ((1, 0, 1),), TURNED[1]), TURN, "turn")

    def test_states(self):
        self.wrong("state", (0, 0), (((1, 2, 8),), ((0, 3),)))
        self.wrong("state", (0, 0), (((1, 8, 7),), ((0, 3),)))
        self.wrong("state", (0, 0), (((1, 3, 3),), ((0, 3),)))
        self.wrong("state", (0, 0), (((1, 3, 7),), ((0, 3),)))
        self.wrong("state", (0, 0), (((1, 2, 7),), ((0, 3),)))
        self.wrong("state", (0, 0), (((1, 10 ** 59, 10 ** 59 + 1),), ((0, 3),)))
        self.wrong("state", (1, 0), (((1, 2, 3),), ((0, 8),)))
        self.wrong("state", (0, 1), (((0, 0, 2), (1, 0, 2)), TURNED[1]), TURN, "turn")
        self.wrong("state", (0, 1), (((0, 0, 2), (1, 0, 4)), TURNED[1]), TURN, "turn")
        self.wrong("state", (1, 1), (TURNED[0], ((0, 1), (1, 4))), TURN, "turn")

    def test_same(self):
        self.wrong("same", (0, 0), (((0, 3, 7), (1, 2, 3)), ((0, 3),)))
        self.wrong("same", (0, 0), (((1, 0, 2),), ((0, 3),)))
        self.wrong("same", (1, 0), (((1, 2, 3),), ((0, 2),)))
        self.wrong("same", (1, 0), (((1, 2, 3),), ((0, 7),)))
        self.wrong("same", (1, 1), (((1, 2, 3),), ((0, 3), (1, 3))))
        self.wrong("same", (1, 1), (TURNED[0], ((0, 1), (1, 0))), TURN, "turn")
        # A second cell that the rule does not read; the first row is right.
        cells = TWO + (("z", 0, 0, 1, True, True, 0),)
        turn = (cells, TURN[1], (), 1)
        self.wrong("same", (0, 2), (((0, 0, 4), (1, 0, 2), (2, 2, 3)), ()), turn, "turn")

    def test_missing_rows(self):
        self.wrong("reads", 1, ((), ((0, 3),)))
        self.wrong("changes", 0, (((1, 2, 3),), ()))
        self.wrong("reads", 0, ((), TURNED[1]), TURN, "turn")
        self.wrong("reads", 1, (TURNED[0][:1], TURNED[1]), TURN, "turn")
        self.wrong("changes", 0, (TURNED[0], TURNED[1][1:]), TURN, "turn")
        self.wrong("changes", 1, (TURNED[0], TURNED[1][:1]), TURN, "turn")

    def test_the_order_of_errors(self):
        self.wrong("shape", -1, (((9, 2, 3),), ((0, -1),)))
        self.wrong("cell", (0, 0), (((2, 8, 8),), ((2, 3),)))
        self.wrong("state", (0, 0), (((1, 8, 8), (9, 2, 3)), ((2, 3),)))
        self.wrong("same", (0, 0), (((0, 3, 7), (0, 9, 9)), ((2, 3),)))
        self.wrong("same", (0, 0), (((1, 0, 1),), ((2, 3),)))
        self.wrong("cell", (1, 0), ((), ((2, 9),)))
        self.wrong("state", (1, 0), ((), ((0, 9), (0, 3))))
        self.wrong("same", (1, 0), ((), ((0, 2), (7, 3))))
        self.wrong("reads", 1, ((), ()))
        self.wrong("reads", 0, ((), ()), TURN, "turn")
        self.wrong("changes", 0, (TURNED[0], ()), TURN, "turn")

    def test_unknown_rules_come_first(self):
        self.unknown(lets_effects, PROG, 1, SEEN)
        self.unknown(lets_effects, PROG, 1, None)
        self.refuses(UnknownRule, {"name": "r"}, lets_effects, ((), (), (), 1), "r", ((), ()))

    def test_papers_with_any_part_changed(self):
        words = set()
        for program, rule in ((PROG, "see"), (PROG, "add"), (TURN, "turn"), (TABLES, "move")):
            for thing in changed_once(effect_paper(program, rule)):
                right = slow_verdict(program, rule, thing)
                words.add(right[0])
                self.same(self.verdict(lets_effects, program, rule, thing), right)
        self.assertEqual(words, {"accepted", "shape", "cell", "state", "same", "reads", "changes"})

    def test_papers_of_other_rules(self):
        for program in some_programs(3, 20) + [(SMALL, (), (), 1)]:
            papers = [effect_paper(program, rule[0]) for rule in program[1]] + [((), ())]
            for rule in program[1]:
                for paper in papers:
                    right = slow_verdict(program, rule[0], paper)
                    self.same(self.verdict(lets_effects, program, rule[0], paper), right)
