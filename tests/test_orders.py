"""[6], [7], [9], [10], [34]: pairs, legal orders, prefixes, next rules, exchanges."""

from itertools import combinations, permutations
from types import GeneratorType

from orderless.orders import (
    exchange_list, exchanges_of, first_order, is_before, is_legal, legal_orders, next_rules, pairs_closed, prefixes_by_length,
    prefixes_of, unordered_pairs)
from tests.samples import ADD, CELLS, CHAIN, FREE, NOTHING, ODD_VALUES, PAIRED, PROG, Case, chance_of, free_rules
from tests.slowly import Slowly, with_pairs

# a before b, c and d; b and c before d; the pair of a and d is one of the closure.
DIAMOND = (FREE[0], free_rules(4), (("a", "b"), ("a", "c"), ("a", "d"), ("b", "d"), ("c", "d")), 1)


def names_of(program):
    return tuple(rule[0] for rule in program[1])


def some_pairs(seed, many):
    """So many programs with pairs of up to five rules, always the same ones."""
    chance = chance_of(seed)
    for _ in range(many):
        rules = free_rules(chance.randint(0, 5))
        order = chance.sample([rule[0] for rule in rules], len(rules))
        pairs = [pair for pair in combinations(order, 2) if chance.random() < chance.choice((0.1, 0.3, 0.6))]
        yield (FREE[0], rules, tuple(sorted(pairs)), 1)


class OrdersTest(Case):
    def test_the_examples(self):
        self.same(list(legal_orders(PAIRED)), [("add", "see", "twice"), ("add", "twice", "see"), ("twice", "add", "see")])
        found = [unordered_pairs(PAIRED), next_rules(PAIRED, ("twice",)), is_legal(PAIRED, ("see", "add", "twice"))]
        self.same(found, [(("add", "twice"), ("see", "twice")), ("add",), False])
        self.same([len(prefixes_of(PAIRED)), list(exchanges_of(PAIRED))],
                  [6, [((), "add", "twice"), (("add",), "see", "twice")]])

    def test_by_name(self):
        self.same(pairs_closed(program=PAIRED), (("add", "see"),))
        self.same(is_before(program=PAIRED, rule="add", other="see"), True)
        self.same(unordered_pairs(program=PAIRED), (("add", "twice"), ("see", "twice")))
        self.same(list(legal_orders(program=CHAIN)), [("add", "twice", "see")])
        self.same(first_order(program=CHAIN), ("add", "twice", "see"))
        self.same(is_legal(program=CHAIN, thing=("add", "twice", "see")), True)
        self.same(prefixes_of(program=CHAIN), ((), ("add",), ("add", "see", "twice"), ("add", "twice")))
        self.same(next_rules(program=CHAIN, prefix=("add",)), ("twice",))
        self.same(list(exchanges_of(program=CHAIN)), [])

    def test_no_rules(self):
        for program in (NOTHING, (CELLS, (), (), 0)):
            self.same([pairs_closed(program), unordered_pairs(program), first_order(program)], [(), (), ()])
            self.same([list(legal_orders(program)), prefixes_of(program), next_rules(program, ())], [[()], ((),), ()])
            self.same([list(exchanges_of(program)), is_legal(program, ()), is_legal(program, [])], [[], True, False])
            self.same(is_legal(program, ("add",)), False)

    def test_one_rule(self):
        program = (CELLS, (ADD,), (), 1)
        self.same([list(legal_orders(program)), prefixes_of(program)], [[("add",)], ((), ("add",))])
        self.same([next_rules(program, ()), next_rules(program, ("add",))], [("add",), ()])
        self.same([list(exchanges_of(program)), unordered_pairs(program)], [[], ()])

    def test_no_pairs(self):
        self.same(pairs_closed(PROG), ())
        self.same(unordered_pairs(PROG), (("add", "see"), ("add", "twice"), ("see", "twice")))
        self.same(list(legal_orders(PROG)), list(permutations(("add", "see", "twice"))))
        self.same(prefixes_of(PROG), ((), ("add",), ("add", "see"), ("add", "see", "twice"), ("add", "twice"), ("see",),
                                      ("see", "twice"), ("twice",)))
        self.same(list(exchanges_of(PROG)), [
            ((), "add", "see"), ((), "add", "twice"), ((), "see", "twice"), (("add",), "see", "twice"),
            (("see",), "add", "twice"), (("twice",), "add", "see")])

    def test_a_chain(self):
        self.same(pairs_closed(CHAIN), (("add", "see"), ("add", "twice"), ("twice", "see")))
        self.same([unordered_pairs(CHAIN), first_order(CHAIN)], [(), ("add", "twice", "see")])
        self.same([is_before(CHAIN, "add", "see"), is_before(CHAIN, "see", "add")], [True, False])
        self.same([next_rules(CHAIN, prefix) for prefix in prefixes_of(CHAIN)], [("add",), ("twice",), (), ("see",)])
        backwards = (FREE[0], free_rules(5), (("b", "a"), ("c", "b"), ("d", "c"), ("e", "d")), 1)
        self.same([len(pairs_closed(backwards)), first_order(backwards)], [10, ("e", "d", "c", "b", "a")])
        self.same(prefixes_of(backwards), ((), ("a", "b", "c", "d", "e"), ("b", "c", "d", "e"), ("c", "d", "e"),
                                           ("d", "e"), ("e",)))

    def test_pairs_of_the_closure_given_as_well(self):
        lean = DIAMOND[:2] + ((("a", "b"), ("a", "c"), ("b", "d"), ("c", "d")), 1)
        self.same(pairs_closed(DIAMOND), DIAMOND[2])
        for function in (pairs_closed, unordered_pairs, prefixes_of, first_order):
            self.same(function(lean), function(DIAMOND))
        self.same(list(legal_orders(lean)), [("a", "b", "c", "d"), ("a", "c", "b", "d")])
        self.same(list(legal_orders(DIAMOND)), list(legal_orders(lean)))
        self.same(list(exchanges_of(DIAMOND)), [(("a",), "b", "c")])
        self.same(list(exchanges_of(lean)), [(("a",), "b", "c")])

    def test_six_rules_without_pairs(self):
        self.same(pairs_closed(FREE), ())
        self.same(unordered_pairs(FREE), tuple(combinations("abcdef", 2)))
        every = [part for many in range(7) for part in combinations("abcdef", many)]
        self.same(prefixes_of(FREE), tuple(sorted(every)))
        exchanges = [(prefix, one, other) for prefix in every for one, other in combinations("abcdef", 2)
                     if one not in prefix and other not in prefix]
        self.same(list(exchanges_of(FREE)), sorted(exchanges))
        self.same([first_order(FREE), next_rules(FREE, ("b", "e"))], [tuple("abcdef"), ("a", "c", "d", "f")])
        walk = legal_orders(FREE)
        self.same([next(walk), next(walk), next(walk)], [tuple("abcdef"), tuple("abcdfe"), tuple("abcedf")])
        self.same(is_legal(FREE, tuple("fedcba")), True)

    def test_is_legal(self):
        for order in permutations(("add", "see", "twice")):
            self.same(is_legal(PROG, order), True)
            self.same(is_legal(PAIRED, order), order.index("add") < order.index("see"))
            self.same(is_legal(CHAIN, order), order == ("add", "twice", "see"))
            self.same(is_legal(PROG, list(order)), False)
        for thing in ODD_VALUES + (
                ("add", "see"), ("add", "see", "see"), ("add", "see", "twice", "twice"), ("add", "see", "other"),
                ("add", "see", "twice", "other"), ("add", "add", "see", "twice"), ("add", "see", None), ("add", "see", 1),
                ("add", "see", ("twice",)), ("add", "see", ["twice"]), (("add", "see"), "twice"), "addseetwice",
                ("add", "see", "TWICE"), ("add", "see", ""), [("add", "see", "twice")], (("add", "see", "twice"),)):
            self.same(is_legal(PROG, thing), False)

    def test_is_legal_of_things_like_names(self):
        program = (FREE[0], free_rules(3), (), 1)
        self.same([is_legal(program, "abc"), is_legal(program, ("a", "b", "c"))], [False, True])

    def test_next_rules_at_the_ends(self):
        for program in (PROG, PAIRED, CHAIN, DIAMOND, FREE):
            starting = tuple(one for one in names_of(program) if one not in [other for _, other in program[2]])
            self.same(next_rules(program, ()), starting)
            self.same(next_rules(program, names_of(program)), ())

    def test_is_before(self):
        for one in names_of(PROG):
            for other in names_of(PROG):
                self.same(is_before(PAIRED, one, other), (one, other) == ("add", "see"))
                self.same(is_before(PROG, one, other), False)

    def test_unknown_rules(self):
        self.unknown(is_before, PAIRED, 2)
        self.unknown(is_before, NOTHING, 0)

    def test_generators(self):
        self.assertIsInstance(legal_orders(PROG), GeneratorType)
        self.assertIsInstance(exchanges_of(PROG), GeneratorType)

    def test_lists(self):
        for program in list(some_pairs(2, 20)) + [PROG, PAIRED, CHAIN, NOTHING, DIAMOND]:
            right = list(exchanges_of(program))
            self.same([right, exchange_list(program)], [sorted(right), right])
            exchange_list(program).append(None)
            self.same(exchange_list(program), right)
            by_length = sorted(prefixes_of(program), key=lambda prefix: (len(prefix), prefix))
            self.same(prefixes_by_length(program), by_length)

    def test_generators_walked_in_one_another(self):
        for function in (legal_orders, exchanges_of):
            every = list(function(PROG))
            self.same([(one, other) for one in function(PROG) for other in function(PROG)],
                      [(one, other) for one in every for other in every])
            first, second = function(PROG), function(PAIRED)
            both = [(next(first), next(second)) for _ in range(2)]
            self.same(both, list(zip(every, function(PAIRED)))[:2])
            self.same(list(first), every[2:])

    def test_by_the_definitions(self):
        for program in list(some_pairs(1, 60)) + [DIAMOND]:
            names = names_of(program)
            slowly = Slowly(program)
            before = slowly.closed
            self.same(pairs_closed(program), tuple(sorted(before)))
            self.same(unordered_pairs(program), tuple(slowly.unordered()))
            for one in names:
                for other in names:
                    self.same(is_before(program, one, other), (one, other) in before)
            orders = slowly.orders(names)
            self.same([list(legal_orders(program)), first_order(program)], [orders, orders[0]])
            for order in permutations(names):
                self.same(is_legal(program, order), order in orders)
            self.same(prefixes_of(program), tuple(slowly.prefixes()))
            for prefix in slowly.prefixes():
                self.same(next_rules(program, prefix), tuple(slowly.next_rules(prefix)))
            self.same(list(exchanges_of(program)), slowly.exchanges())

    def test_further_pairs_add_no_order(self):
        for program in some_pairs(2, 20):
            for one, other in unordered_pairs(program):
                self.assertTrue(set(legal_orders(with_pairs(program, (other, one)))) < set(legal_orders(program)))

    def test_orders_are_connected_by_neighbours(self):
        for program in some_pairs(3, 15):
            orders = list(legal_orders(program))
            reached = [orders[0]]
            for order in reached:
                for k in range(len(order) - 1):
                    other = order[:k] + (order[k + 1], order[k]) + order[k + 2:]
                    if other not in reached and is_legal(program, other):
                        reached.append(other)
            self.assertEqual(sorted(reached), orders)
