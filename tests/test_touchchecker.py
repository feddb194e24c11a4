"""[7], [32]: the checker of touch papers."""

from orderless.errors import InvalidPaper
from orderless.rules import assigned
from orderless.states import all_states
from orderless.touchchecker import lets_touch
from orderless.touchpapers import touch_paper
from tests.samples import CELLS, ODD_VALUES, PROG, TABLES, Case, changed_once, some_programs

TOUCH = (1, 1, 1, (2, 3))

BOTH = (CELLS, (("a", 1, (("x", 1),)), ("b", ("=", "big", 1), (("x", 2),)), ("c", 1, (("big", 0),))), (), 1)


def slow_verdict(program, name, other, thing):
    """The verdict as the document states it, without a look at any function of the checker."""
    cells, rules = program[:2]
    states = list(all_states(program))
    found = [[rule for rule in rules if rule[0] == one][0] for one in (name, other)]
    entries = [[assigned(cells, rule, state) for state in states] for rule in found]

    def are_numbers(parts):
        return all(type(part) is int and part >= 0 for part in parts)

    def changes(who, number, cell):
        return any(k == cell and value != states[number][k] for k, value in entries[who][number] or ())

    if type(thing) is not tuple or len(thing) != 4 or not are_numbers(thing[:3]) or thing[0] not in (0, 1):
        return ("shape", -1)
    changer, cell, state, seen = thing
    if type(seen) is not tuple or len(seen) not in (1, 2) or not are_numbers(seen):
        return ("shape", -1)
    if cell not in range(len(states[0])):
        return ("cell", -1)
    if state not in range(len(states)) or not changes(changer, state, cell):
        return ("change", -1)
    if any(number not in range(len(states)) for number in seen):
        return ("seen", -1)
    if len(seen) == 1 and not changes(1 - changer, seen[0], cell):
        return ("seen", -1)
    if len(seen) == 2:
        one, two = seen
        differing = [k for k in range(len(states[0])) if states[one][k] != states[two][k]]
        if differing != [cell] or entries[1 - changer][one] == entries[1 - changer][two]:
            return ("seen", -1)
    return ("accepted", cell)


class TouchCheckerTest(Case):
    def wrong(self, word, thing, program=PROG, rule="see", other="twice"):
        self.refuses(InvalidPaper, {"word": word, "at": -1}, lets_touch, program, rule, other, thing)

    def test_the_examples(self):
        self.same(lets_touch(PROG, "see", "twice", TOUCH), 1)
        self.wrong("change", (0, 1, 1, (2, 3)))

    def test_by_name(self):
        self.same(lets_touch(thing=TOUCH, other="twice", rule="see", program=PROG), 1)

    def test_other_papers(self):
        self.same(lets_touch(PROG, "twice", "see", (0, 1, 5, (3, 0))), 1)
        self.same(lets_touch(PROG, "add", "twice", (0, 1, 0, (1,))), 1)
        self.same(lets_touch(PROG, "add", "twice", (1, 1, 1, (6,))), 1)
        self.same(lets_touch(PROG, "add", "twice", (1, 1, 1, (0, 1))), 1)
        self.same(lets_touch(PROG, "add", "add", (0, 1, 0, (0,))), 1)
        self.same(lets_touch(PROG, "add", "add", (1, 1, 2, (2, 1))), 1)
        self.same(lets_touch(BOTH, "b", "c", (1, 0, 4, (0, 4))), 0)

    def test_shape(self):
        for thing in ODD_VALUES + (
                list(TOUCH), TOUCH[:3], TOUCH + (1,), (2,) + TOUCH[1:], (-1,) + TOUCH[1:], (True,) + TOUCH[1:],
                (1, True, 1, (2, 3)), (1, 1, True, (2, 3)), (1, -1, 1, (2, 3)), (1, 1, -1, (2, 3)), (1, 1, 1, [2, 3]),
                (1, 1, 1, ()), (1, 1, 1, (1, 2, 3)), (1, 1, 1, (2, -3)), (1, 1, 1, (2, "3")), (1, 1, 1, 2),
                (1, 1, 1, (True,)), (1, 1, 1, (False, 3)), ("1", 1, 1, (2, 3)), (1, None, 1, (2, 3)), (1, 1, (1,), (2, 3))):
            self.wrong("shape", thing)

    def test_cells(self):
        for cell in (2, 3, 10 ** 59):
            self.wrong("cell", (1, cell, 1, (2, 3)))

    def test_change(self):
        self.wrong("change", (1, 0, 1, (2, 3)))
        self.wrong("change", (1, 1, 8, (2, 3)))
        self.wrong("change", (1, 1, 10 ** 59, (2, 3)))
        self.wrong("change", (1, 1, 0, (2, 3)))
        self.wrong("change", (1, 1, 2, (2, 3)))
        self.wrong("change", (0, 0, 7, (2, 3)))

    def test_seen(self):
        self.wrong("seen", (1, 1, 1, (2, 8)))
        self.wrong("seen", (1, 1, 1, (8, 3)))
        self.wrong("seen", (1, 1, 1, (3,)))
        self.wrong("seen", (1, 1, 1, (8,)))
        self.wrong("seen", (1, 1, 1, (1, 2)))
        self.wrong("seen", (1, 1, 1, (3, 3)))
        self.wrong("seen", (1, 1, 1, (3, 7)))
        self.wrong("seen", (1, 1, 1, (2, 7)))
        self.wrong("seen", (0, 0, 3, (0,)))
        # a changes x in states 0 and 4, b in state 4 only; c reads no cell, b reads big.
        self.wrong("seen", (0, 1, 0, (0,)), BOTH, "a", "b")
        self.wrong("seen", (0, 1, 0, (0, 1)), BOTH, "a", "b")
        self.wrong("seen", (0, 1, 0, (0, 4)), BOTH, "a", "b")
        self.same(lets_touch(BOTH, "a", "b", (0, 1, 0, (4,))), 1)

    def test_the_order_of_errors(self):
        self.wrong("shape", (2, 2, 8, (8, 8)))
        self.wrong("cell", (1, 2, 8, (8, 8)))
        self.wrong("change", (1, 1, 8, (8, 8)))
        self.wrong("change", (1, 1, 0, (0,)))
        self.wrong("seen", (1, 1, 1, (8, 8)))

    def test_unknown_rules_come_first(self):
        self.unknown(lets_touch, PROG, 2, TOUCH)
        self.unknown(lets_touch, PROG, 2, None)

    def test_papers_with_any_part_changed(self):
        words = set()
        for program, rule, other in ((PROG, "see", "twice"), (PROG, "twice", "see"), (PROG, "add", "twice"),
                                     (PROG, "add", "add"), (TABLES, "move", "same"), (BOTH, "a", "b")):
            for paper in (touch_paper(program, rule, other), (0, 1, 0, (0, 1)), (1, 1, 0, (0,)), (0, 1, 1, (1, 2))):
                for thing in changed_once(paper):
                    right = slow_verdict(program, rule, other, thing)
                    words.add(right[0])
                    self.same(self.verdict(lets_touch, program, rule, other, thing), right)
        self.assertEqual(words, {"accepted", "shape", "cell", "change", "seen"})

    def test_papers_of_other_rules(self):
        for program in some_programs(4, 15):
            names = [rule[0] for rule in program[1]]
            papers = [touch_paper(program, one, other) for one in names for other in names]
            for one in names:
                for other in names:
                    for paper in papers:
                        right = slow_verdict(program, one, other, paper)
                        self.same(self.verdict(lets_touch, program, one, other, paper), right)
