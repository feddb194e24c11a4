"""[9], [43] and the section asking."""

from orderless.asking import best_question, questions_needed
from orderless.deciding import decided
from orderless.noticing import open_pairs
from orderless.orders import unordered_pairs
from orderless.running import is_settled
from tests.samples import CELLS, CHAIN, NINE, NOTHING, PAIRED, PROG, Case, free_rules, some_programs
from tests.slowly import Slowly

# Three ordered rules, each of which is seen by a fourth one: x shows how many of them were done before it.
STEPS = tuple((name, 1, (("x", ("+", "x", 1)),)) for name in "abc") + (("look", 1, (("y", "x"),)),)
STEP_CELLS = (("x", 0, 0, 3, True, False, 0), ("y", 0, 0, 3, False, True, 0))
ORDERED = (STEP_CELLS, STEPS, (("a", "b"), ("b", "c")), ("=", "x", 0))

# Four free rules whose order is shown whole: each adds a digit of base 4, the last of four.
DIGITS = (("x", 0, 0, 255, False, True, 0),)
FOUR = (DIGITS, tuple((name, 1, (("x", ("mod", ("+", ("*", "x", 4), k), 256)),)) for k, name in enumerate("abcd")), (), 1)


def slow_needed(program, known):
    """The number of questions needed, as the document says it."""
    slowly = Slowly(program)
    key = frozenset(slowly.closed)
    if key not in known:
        known[key] = 0
        if not slowly.settled():
            known[key] = 1 + min(max(slow_needed(decided(program, pair), known), slow_needed(decided(program, pair[::-1]), known))
                                 for pair in unordered_pairs(program))
    return known[key]


class AskingTest(Case):
    def holds(self, program, many):
        """The number of questions is right, and the best ones lead to a settled program in so many steps."""
        self.same(questions_needed(program), many)
        pair = best_question(program)
        if many == 0:
            self.same(pair, None)
            self.same(is_settled(program), True)
            return
        self.assertIn(pair, unordered_pairs(program))
        needed = [questions_needed(decided(program, decision)) for decision in (pair, pair[::-1])]
        self.assertEqual(max(needed), many - 1)
        for decision, left in zip((pair, pair[::-1]), needed):
            self.holds(decided(program, decision), left)

    def test_the_examples(self):
        self.same([questions_needed(PROG), questions_needed(decided(PROG, ("see", "add")))], [2, 0])
        self.same(best_question(decided(PROG, ("add", "see"))), ("add", "twice"))
        self.holds(PROG, 2)

    def test_by_name(self):
        self.same([questions_needed(program=PROG), best_question(program=CHAIN)], [2, None])

    def test_settled_programs(self):
        for program in (CHAIN, NOTHING, PROG[:3] + (0,), (CELLS, PROG[1][:1], (), 1), (CELLS, (), (), 1)):
            self.holds(program, 0)

    def test_one_open_pair(self):
        program = (NINE, free_rules(2), (), 1)
        self.holds(program, 1)
        self.same(best_question(program), ("a", "b"))
        more = (NINE, free_rules(2) + (("c", 1, (("x", "x"),)), ("d", 0, (("x", 1),))), (), 1)
        self.holds(more, 1)
        self.same(best_question(more), ("a", "b"))
        self.holds(decided(PROG, ("add", "see")), 1)

    def test_three_ordered_rules_and_a_fourth_one(self):
        self.same(open_pairs(ORDERED), (("a", "look"), ("b", "look"), ("c", "look")))
        self.holds(ORDERED, 2)
        self.same(best_question(ORDERED), ("b", "look"))

    def test_three_rules_without_order_and_a_fourth_one(self):
        self.holds(ORDERED[:2] + ((), 1), 3)

    def test_four_free_rules(self):
        self.same(open_pairs(FOUR), unordered_pairs(FOUR))
        self.holds(FOUR, 5)
        three = (DIGITS, FOUR[1][:3], (), 1)
        self.holds(three, 3)

    def test_pairs_matter(self):
        self.holds(PAIRED, slow_needed(PAIRED, {}))
        self.holds(FOUR[:2] + ((("a", "b"), ("c", "d")), 1), 3)

    def test_by_the_definition(self):
        found = set()
        for program in some_programs(81, 60):
            many = slow_needed(program, {})
            found.add(many)
            self.holds(program, many)
            self.assertTrue(many <= len(open_pairs(program)))
        self.assertTrue(found >= {0, 1, 2, 3})
