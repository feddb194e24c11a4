"""[5], [16], [22] and the section rules."""

from itertools import product

from orderless.cells import cell_ranges
from orderless.expressions import value_in
from orderless.rules import assigned, behind, looks_of
from tests.samples import (
    ADD, CELLS, MIXED, MOVE, SAME, SEE, TABLE, TWICE, Case, Fails, chance_of, slow_value, some_rule,
)

NAN = ("at", "t", 5)


class ExamplesTest(Case):
    def test_as_printed(self):
        found = [assigned(TABLE, MOVE, (0, 4, 5)), behind(TABLE, MOVE, (0, 4, 5)), assigned(TABLE, MOVE, (1, 4, 5))]
        self.same(found, [((1, 5),), (0, 5, 5), None])
        self.same([assigned(TABLE, SAME, (0, 4, 5)), assigned(TABLE, SAME, (1, 4, 5))], [None, ((1, 1), (2, 1))])

    def test_by_name(self):
        self.same(assigned(cells=CELLS, rule=ADD, state=(0, 1)), ((1, 2),))
        self.same(behind(cells=CELLS, rule=ADD, state=(0, 1)), (0, 2))
        self.same(looks_of(cells=CELLS, rule=ADD, state=(0, 1)), ((1, 1),))

    def test_the_rules_of_the_examples(self):
        self.same([behind(CELLS, ADD, (1, x)) for x in range(4)], [(1, 1), (1, 2), (1, 3), (1, 3)])
        self.same([behind(CELLS, TWICE, (0, x)) for x in range(4)], [(0, 0), (0, 2), (0, 2), (0, 3)])
        self.same([assigned(CELLS, SEE, (0, x)) for x in range(4)], [None, None, None, ((0, 1),)])


class RestingTest(Case):
    def rests(self, guard, assignments, state=(1, 4, 5)):
        rule = ("r", guard, assignments)
        self.same(assigned(TABLE, rule, state), None)
        self.same(behind(TABLE, rule, state), state)

    def test_the_guard(self):
        for guard in (0, NAN, ("=", "i", 0), ("+", "i", NAN), ("at", "t", ("neg", "i"))):
            self.rests(guard, (("i", 2),))
        for guard in (1, -1, 5, "i"):
            self.same(behind(TABLE, ("r", guard, (("i", 2),)), (1, 4, 5)), (2, 4, 5))

    def test_keys_and_values_that_fail(self):
        self.rests(1, (("i", NAN),))
        self.rests(1, ((("t", NAN), 1),))
        self.rests(1, (("i", 2), (("t", 0), NAN)))
        self.rests(1, (("i", 2), (("t", NAN), 1)))
        self.rests(1, ((("t", 0), NAN), ("i", 2)))

    def test_keys_without_a_cell(self):
        for key in (-1, 2, 99, ("+", "i", 1), ("-", "i", 2)):
            self.rests(1, ((("t", key), 1),))
            self.rests(1, (("i", 2), (("t", key), 1)))
            self.rests(1, ((("t", key), 1), ("i", 2)))

    def test_values_out_of_range(self):
        for value in (-1, 4, 100):
            self.rests(1, (("i", value),))
        for value in (-1, 6):
            self.rests(1, ((("t", 0), value),))
            self.rests(1, (("i", 2), (("t", "i"), value)))
        self.same([assigned(TABLE, ("r", 1, (("i", value),)), (1, 4, 5)) for value in (0, 3)], [((0, 0),), ((0, 3),)])
        self.same([assigned(MIXED, ("r", 1, (("a", value),)), (0, 3, 3, 0, 0)) for value in (-3, -2, 1, 2)],
                  [None, ((0, -2),), ((0, 1),), None])

    def test_a_cell_twice(self):
        self.rests(1, (("i", 2), ("i", 2)))
        self.rests(1, (("i", 2), ("i", 3)))
        self.rests(1, ((("t", 1), 2), (("t", "i"), 2)))
        self.rests(1, (("i", 2), (("t", 0), 1), ("i", 1)))
        self.same(behind(TABLE, ("r", 1, ((("t", 1), 2), (("t", "i"), 2))), (0, 4, 5)), (0, 2, 2))


class AssigningTest(Case):
    def test_all_from_the_state_before(self):
        swap = ("swap", 1, ((("t", 0), ("at", "t", 1)), (("t", 1), ("at", "t", 0))))
        self.same(behind(TABLE, swap, (1, 4, 5)), (1, 5, 4))
        chase = ("chase", 1, (("i", ("-", 1, "i")), (("t", "i"), ("+", "i", 2))))
        self.same([behind(TABLE, chase, (0, 4, 5)), behind(TABLE, chase, (1, 4, 5))], [(1, 2, 5), (0, 4, 3)])

    def test_ascending_by_index(self):
        rule = ("r", 1, ((("t", 1), 0), ("i", 3), (("t", 0), 2)))
        self.same(assigned(TABLE, rule, (1, 4, 5)), ((0, 3), (1, 2), (2, 0)))
        self.same(behind(TABLE, rule, (1, 4, 5)), (3, 2, 0))

    def test_what_is_there_already_is_assigned_too(self):
        self.same(assigned(TABLE, ("r", 1, (("i", "i"),)), (1, 4, 5)), ((0, 1),))
        self.same(behind(TABLE, ("r", 1, (("i", "i"),)), (1, 4, 5)), (1, 4, 5))


class LooksTest(Case):
    def looks(self, guard, *assignments, state=(1, 4, 5)):
        return looks_of(TABLE, ("r", guard, assignments), state)

    def test_the_guard_first(self):
        self.same(self.looks("i", ("i", ("at", "t", 0))), ((0, 1), (1, 4)))
        self.same(self.looks(("at", "t", 1), ("i", "i")), ((2, 5), (0, 1)))
        self.same(self.looks("i", ("i", ("at", "t", 0)), state=(0, 4, 5)), ((0, 0),))
        self.same(self.looks(("+", ("at", "t", 1), NAN), ("i", "i")), ((2, 5),))

    def test_the_key_before_the_value(self):
        self.same(self.looks(1, (("t", "i"), ("at", "t", 0))), ((0, 1), (1, 4)))
        self.same(self.looks(1, (("t", ("-", ("at", "t", 0), 3)), "i")), ((1, 4), (0, 1)))

    def test_targets_are_not_looked_at(self):
        self.same(self.looks(1, ("i", 2)), ())
        self.same(self.looks(1, (("t", 0), 2)), ())
        self.same(self.looks(1, (("t", "i"), 2)), ((0, 1),))

    def test_each_cell_once(self):
        self.same(self.looks("i", (("t", "i"), "i"), ("i", ("at", "t", "i"))), ((0, 1), (2, 5)))

    def test_where_it_ends(self):
        self.same(self.looks(1, ("i", NAN), (("t", 0), ("at", "t", 1))), ())
        self.same(self.looks(1, (("t", NAN), "i")), ())
        self.same(self.looks(1, (("t", ("+", "i", 1)), ("at", "t", 0)), ("i", ("at", "t", 1))), ((0, 1),))
        self.same(self.looks(1, (("t", -1), "i")), ())
        self.same(self.looks(1, ("i", ("at", "t", 0)), (("t", 9), ("at", "t", 1))), ((1, 4),))

    def test_where_it_does_not_end(self):
        self.same(self.looks(1, ("i", 99), (("t", 0), ("at", "t", 1))), ((2, 5),))
        self.same(self.looks(1, ("i", 2), ("i", ("at", "t", 1)), (("t", 0), "i")), ((2, 5), (0, 1)))
        self.same(self.looks(1, (("t", 0), -1), (("t", 0), "i")), ((0, 1),))


class AllTest(Case):
    """Against the words of [5], worked out again by the second evaluator."""

    def right(self, cells, rule, state):
        looks = []
        found = []
        _, guard, assignments = rule
        try:
            if not slow_value(cells, state, guard, looks):
                return None, looks
            for target, part in assignments:
                if isinstance(target, str):
                    place = [row[0] for row in cells].index(target)
                    index = sum(row[1] or 1 for row in cells[:place])
                else:
                    key = slow_value(cells, state, target[1], looks)
                    place = [row[0] for row in cells].index(target[0])
                    if not 0 <= key < cells[place][1]:
                        return None, looks
                    index = sum(row[1] or 1 for row in cells[:place]) + key
                found.append((index, slow_value(cells, state, part, looks), cells[place]))
        except Fails:
            return None, looks
        if len({index for index, _, _ in found}) < len(found):
            return None, looks
        if any(not row[2] <= value <= row[3] for _, value, row in found):
            return None, looks
        return tuple(sorted((index, value) for index, value, _ in found)), looks

    def test_like_the_other_evaluator(self):
        chance = chance_of(5)
        for cells in (CELLS, TABLE, MIXED):
            states = list(product(*[range(low, high + 1) for low, high in cell_ranges(cells)]))
            for _ in range(150):
                rule = some_rule(chance, cells, 3)
                for state in chance.sample(states, min(8, len(states))):
                    entries, looks = self.right(cells, rule, state)
                    self.same(assigned(cells, rule, state), entries)
                    self.same(looks_of(cells, rule, state), tuple((k, state[k]) for k in dict.fromkeys(looks)))
                    after = dict(entries or ())
                    self.same(behind(cells, rule, state), tuple(after.get(k, v) for k, v in enumerate(state)))

    def test_the_state_behind_is_a_state(self):
        for rule in (MOVE, SAME):
            for state in product(range(4), range(6), range(6)):
                after = behind(TABLE, rule, state)
                self.assertTrue(all(low <= v <= high for v, (low, high) in zip(after, cell_ranges(TABLE))))
                self.same(assigned(TABLE, rule, state) is None or value_in(TABLE, state, rule[1]) != 0, True)
