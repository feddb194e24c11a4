"""[8], [9], [42] and the section deciding."""

from itertools import combinations, product

from orderless.deciding import decided, settles, unsettled_choice
from orderless.errors import InvalidStep, UnknownRule
from orderless.noticing import open_pairs
from orderless.orders import first_order, unordered_pairs
from orderless.running import is_settled
from tests.samples import CELLS, CHAIN, FREE, NINE, NOTHING, PAIRED, PROG, Case, free_rules, some_programs
from tests.slowly import Slowly, with_pairs

FOUR = (NINE, free_rules(4), (("a", "b"), ("c", "d")), 1)
HIDDEN = (tuple(row[:5] + (False,) + row[6:] for row in CELLS),) + PROG[1:]


def has_circle(names, pairs):
    """Whether some order of a few names is none that keeps the pairs, for each order."""
    rules = tuple((name, 1, (("x", 1),)) for name in names)
    order = first_order((NINE, rules, tuple(pairs), 1))
    return len(order) < len(names)


class DecidedTest(Case):
    def test_the_examples(self):
        self.same(decided(PROG, ("twice", "add"), ("add", "see"))[2], (("add", "see"), ("twice", "add")))
        decisions = (("add", "see"), ("see", "twice"), ("twice", "add"))
        self.refuses(InvalidStep, {"step": decisions, "reason": "circle"}, decided, PROG, *decisions)

    def test_without_decisions(self):
        for program in (PROG, PAIRED, CHAIN, NOTHING):
            self.same([decided(program), decided(program=program)], [program, program])

    def test_decisions_are_pairs(self):
        self.same(decided(PAIRED, ("twice", "see")), PAIRED[:2] + ((("add", "see"), ("twice", "see")), 1))
        self.same(decided(PAIRED, ("see", "twice")), PAIRED[:2] + ((("add", "see"), ("see", "twice")), 1))
        self.same(decided(PROG[:3] + (0,), ("see", "add")), PROG[:2] + ((("see", "add"),), 0))

    def test_the_same_decision_twice(self):
        self.same(decided(PROG, ("see", "add"), ("see", "add")), PROG[:2] + ((("see", "add"),), 1))
        self.same(decided(PROG, ("see", "add"), ("twice", "add"), ("see", "add"))[2], (("see", "add"), ("twice", "add")))

    def test_one_decision_that_follows_from_others(self):
        decisions = (("see", "add"), ("add", "twice"), ("see", "twice"))
        self.same(decided(PROG, *decisions)[2], (("add", "twice"), ("see", "add"), ("see", "twice")))

    def test_ordered(self):
        for decision in (("add", "see"), ("see", "add")):
            self.refuses(InvalidStep, {"step": decision, "reason": "ordered"}, decided, PAIRED, decision)
            self.refuses(InvalidStep, {"step": decision, "reason": "ordered"}, decided, PAIRED, ("add", "twice"), decision)
        for decision in (("add", "see"), ("see", "add"), ("see", "see")):
            self.refuses(InvalidStep, {"step": decision, "reason": "ordered"}, decided, CHAIN, decision)
            self.refuses(InvalidStep, {"step": decision, "reason": "ordered"}, settles, CHAIN, decision)
            self.refuses(InvalidStep, {"step": decision, "reason": "ordered"}, unsettled_choice, CHAIN, decision)

    def test_the_same_rule(self):
        for function in (decided, settles, unsettled_choice):
            self.refuses(InvalidStep, {"step": ("see", "see"), "reason": "ordered"}, function, PROG, ("see", "see"))
            self.refuses(InvalidStep, {"step": ("see", "see"), "reason": "ordered"}, function, PROG, ("add", "see"),
                         ("see", "see"), ("add", "add"))

    def test_circles(self):
        for decisions in ((("add", "see"), ("see", "add")), (("see", "twice"), ("twice", "add"), ("add", "see")),
                          (("add", "see"), ("add", "see"), ("see", "add"))):
            self.refuses(InvalidStep, {"step": decisions, "reason": "circle"}, decided, PROG, *decisions)
        # With the pair a b or the pair c d alone, or without pairs, there is no circle.
        decisions = (("b", "c"), ("d", "a"))
        self.refuses(InvalidStep, {"step": decisions, "reason": "circle"}, decided, FOUR, *decisions)
        self.same(decided(FOUR[:2] + (FOUR[2][:1], 1), *decisions)[2], (("a", "b"), ("b", "c"), ("d", "a")))

    def test_the_order_of_errors(self):
        self.refuses(UnknownRule, {"name": "x"}, decided, PROG, ("see", "see"), ("add", "x"), ("y", "add"))
        self.refuses(UnknownRule, {"name": "y"}, decided, PROG, ("y", "x"))
        self.refuses(UnknownRule, {"name": "x"}, decided, PROG, ("add", "see"), ("see", "add"), ("x", "x"))
        self.refuses(InvalidStep, {"step": ("see", "see"), "reason": "ordered"}, decided, PROG, ("add", "see"),
                     ("see", "add"), ("see", "see"))
        self.refuses(InvalidStep, {"step": ("see", "add"), "reason": "ordered"}, decided, PAIRED, ("see", "add"),
                     ("twice", "twice"))
        # The other decisions do not count: both are unordered in the program, and only together are they a circle.
        decisions = (("add", "twice"), ("twice", "add"))
        self.refuses(InvalidStep, {"step": decisions, "reason": "circle"}, decided, PAIRED, *decisions)

    def test_unknown_rules(self):
        for function in (decided, settles, unsettled_choice):
            self.refuses(UnknownRule, {"name": "x"}, function, PROG, ("see", "add"), ("x", "add"), ("y", "add"))
            self.refuses(UnknownRule, {"name": "y"}, function, PROG, ("see", "add"), ("add", "y"), ("x", "add"))
            self.refuses(UnknownRule, {"name": ""}, function, NOTHING, ("", "add"))

    def test_all_decisions_of_three_rules(self):
        names = ("add", "see", "twice")
        every = [(one, other) for one in names for other in names if one != other]
        for many in range(4):
            for decisions in product(every, repeat=many):
                if has_circle(names, decisions):
                    self.refuses(InvalidStep, {"step": decisions, "reason": "circle"}, decided, PROG, *decisions)
                else:
                    self.same(decided(PROG, *decisions), with_pairs(PROG, *decisions))


class SettlesTest(Case):
    def chooses(self, program, *some):
        """Whether a choice is returned; it is looked at by deciding it."""
        choice = unsettled_choice(program, *some)
        self.same(settles(program, *some), choice is None)
        if choice is None:
            return False
        self.same((type(choice), [tuple(sorted(pair)) for pair in choice]), (tuple, [tuple(sorted(pair)) for pair in some]))
        self.same(Slowly(decided(program, *choice)).settled(), False)
        return True

    def test_the_examples(self):
        self.same([settles(PROG, ("add", "see"), ("twice", "add")), unsettled_choice(PROG)], [True, ()])

    def test_by_name(self):
        self.same([settles(program=PROG), unsettled_choice(program=PROG)], [False, ()])

    def test_pairs_in_any_order(self):
        for one in (("add", "see"), ("see", "add")):
            for other in (("add", "twice"), ("twice", "add")):
                self.same([settles(PROG, one, other), settles(PROG, other, one)], [True, True])
                self.same(settles(PROG, one, other, ("twice", "see")), True)
            self.same([self.chooses(PROG, one), self.chooses(PROG, one, ("see", "twice"))], [True, True])

    def test_the_same_pair_twice(self):
        self.same(settles(PROG, ("add", "see"), ("twice", "add"), ("see", "add"), ("add", "see")), True)
        for some in ((("add", "see"), ("see", "add")), (("twice", "see"), ("twice", "see"), ("see", "twice"))):
            self.assertTrue(self.chooses(PROG, *some))
            self.same(len(set(unsettled_choice(PROG, *some))), 1)

    def test_pairs_that_are_not_open(self):
        self.same([self.chooses(PROG, ("see", "twice")), self.chooses(PAIRED, ("see", "twice"))], [True, True])
        self.same([settles(HIDDEN, ("see", "twice")), unsettled_choice(HIDDEN, ("add", "see"))], [True, None])

    def test_a_settled_program_needs_no_decision(self):
        for program in (CHAIN, HIDDEN, NOTHING, PROG[:3] + (0,)):
            self.same([settles(program), unsettled_choice(program)], [True, None])

    def test_six_rules(self):
        pairs = unordered_pairs(FREE)
        self.same([settles(FREE, *pairs), settles(FREE, *pairs[1:]), settles(FREE, *pairs[:-1])], [True, False, False])
        self.same(is_settled(decided(FREE, *unsettled_choice(FREE, *pairs[1:]))), False)

    def test_all_choices(self):
        many = {True: 0, False: 0}
        for program in [PROG, PAIRED] + some_programs(71, 40):
            unordered = unordered_pairs(program)
            for count in range(min(len(unordered), 3) + 1):
                for some in combinations(unordered, count):
                    choices = list(product(*[(pair, pair[::-1]) for pair in some]))
                    names = [rule[0] for rule in program[1]]
                    possible = [choice for choice in choices if not has_circle(names, program[2] + choice)]
                    right = all(Slowly(with_pairs(program, *choice)).settled() for choice in possible)
                    many[right] += 1
                    self.same(not self.chooses(program, *some[::-1]), right)
                    self.same(right, set(open_pairs(program)) <= set(some))
        self.assertTrue(min(many.values()) > 40)

    def test_with_some_decisions_fewer_pairs_are_open(self):
        self.same(open_pairs(decided(PROG, ("see", "add"))), ())
        self.same(open_pairs(decided(PROG, ("add", "see"))), (("add", "twice"),))
