"""[7], [9], [40], [41]: noticed exchanges, traces, open pairs."""

from orderless.effects import changes_of
from orderless.errors import UnknownRule
from orderless.noticing import different_orders, is_open_pair, noticed_exchanges, open_pairs, trace_of
from orderless.orders import unordered_pairs
from orderless.pairings import commute
from orderless.running import is_settled
from tests.samples import (
    CELLS, CHAIN, FREE, NINE, NOTHING, PAIRED, PROG, TABLES, Case, free_rules, some_programs)
from tests.slowly import Slowly, with_pairs

HIDDEN = (tuple(row[:5] + (False,) + row[6:] for row in CELLS),) + PROG[1:]
NO_START = PROG[:3] + (0,)
PAIRS = (("add", "see"), ("add", "twice"))
SOME = [PROG, PAIRED, CHAIN, TABLES, HIDDEN, NO_START, NOTHING] + some_programs(61, 70)


class NoticingTest(Case):
    def test_the_examples(self):
        self.same([open_pairs(PROG), trace_of(PROG, ("see",), "add", "twice")], [PAIRS, None])
        self.same(trace_of(PROG, (), "twice", "add"), ((0, 1), (), ("see",)))
        self.same(noticed_exchanges(PROG), (((), "add", "see"), ((), "add", "twice"), (("twice",), "add", "see")))

    def test_by_name(self):
        self.same(trace_of(program=PROG, prefix=(), one="twice", other="add"), ((0, 1), (), ("see",)))
        self.same([noticed_exchanges(program=CHAIN), open_pairs(program=PROG)], [(), PAIRS])
        self.same([is_open_pair(program=PROG, one="see", other="add"), different_orders(program=CHAIN)], [True, None])

    def test_traces(self):
        many = {True: 0, False: 0}
        for program in SOME:
            slowly = Slowly(program)
            for prefix, one, other in slowly.exchanges():
                for names in ((one, other), (other, one)):
                    trace = trace_of(program, prefix, *names)
                    self.same(trace is not None, slowly.is_noticed(prefix, one, other))
                    many[trace is not None] += 1
                    if trace is not None:
                        self.same([type(trace), len(trace), {type(part) for part in trace}], [tuple, 3, {tuple}])
                        self.assertTrue(slowly.is_trace((one, other), trace, prefix))
        self.assertTrue(min(many.values()) > 60)

    def test_noticed_exchanges_and_open_pairs(self):
        for program in SOME:
            slowly = Slowly(program)
            self.same(noticed_exchanges(program), tuple(slowly.noticed()))
            pairs = slowly.open_pairs()
            self.same(open_pairs(program), tuple(pairs))
            for one in slowly.names:
                for other in slowly.names:
                    self.same(is_open_pair(program, one, other), tuple(sorted((one, other))) in pairs)
            self.same(pairs == [], slowly.settled())

    def test_is_open_pair(self):
        self.same([is_open_pair(PROG, name, name) for name in ("add", "see", "twice")], [False] * 3)
        self.same([is_open_pair(PAIRED, "add", "see"), is_open_pair(PAIRED, "see", "add")], [False, False])
        self.same([is_open_pair(PROG, "twice", "add"), is_open_pair(PROG, "see", "twice")], [True, False])

    def test_different_orders(self):
        many = 0
        for program in SOME:
            slowly = Slowly(program)
            found = different_orders(program)
            self.same(found is None, slowly.settled())
            if found is not None:
                many += 1
                start, order, other = found
                self.assertEqual([type(found), type(order), type(other)], [tuple, tuple, tuple])
                k = [one == two for one, two in zip(order, other)].index(False)
                self.same(other, order[:k] + (order[k + 1], order[k]) + order[k + 2:])
                self.assertLess(order[k], order[k + 1])
                self.assertTrue(slowly.is_trace(order[k:k + 2], (start, order[:k], order[k + 2:])))
        self.assertTrue(many > 20)
        self.same([different_orders(program) for program in (NOTHING, CHAIN, HIDDEN, NO_START)], [None] * 4)

    def test_six_rules(self):
        # Exchanging c and f adds a multiple of 3, which a third rule makes 0; the other two of such kind likewise. What
        # is done behind four rules is always noticed, what is done with two or more rules behind it never.
        self.same([open_pairs(FREE), len(noticed_exchanges(FREE))], [unordered_pairs(FREE), 15 + (15 - 3) * 4])
        start, before, after = trace_of(FREE, ("a", "b", "e"), "f", "d")
        self.same([sorted(before), after, start in Slowly((NINE, (), (), 1)).states], [["a", "b", "e"], ("c",), True])
        self.same(trace_of(FREE, ("a", "b", "d"), "f", "c"), None)

    def test_one_pair_open_of_many(self):
        rules = free_rules(2) + (("c", 1, (("x", "x"),)), ("d", 0, (("x", 1),)))
        program = (NINE, rules, (), 1)
        self.same([open_pairs(program), len(noticed_exchanges(program))], [(("a", "b"),), 4])

    def test_unknown_rules(self):
        self.unknown(is_open_pair, PROG, 2)
        for one, other, name in (("x", "y", "x"), ("add", "y", "y"), ("", "add", "")):
            self.refuses(UnknownRule, {"name": name}, trace_of, PROG, (), one, other)

    def test_consequences(self):
        for program in SOME:
            pairs = open_pairs(program)
            self.same(pairs == (), is_settled(program))
            for one, other in pairs:
                self.same(commute(program, one, other), False)
                self.assertTrue(changes_of(program, one) and changes_of(program, other))
            noticed = set(noticed_exchanges(program))
            for one, other in unordered_pairs(program):
                for more in (with_pairs(program, (one, other)), with_pairs(program, (other, one))):
                    self.assertTrue(set(noticed_exchanges(more)) <= noticed)
        self.same([open_pairs(HIDDEN), open_pairs(NO_START), open_pairs(NOTHING)], [(), (), ()])
