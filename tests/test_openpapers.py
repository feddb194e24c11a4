"""[44], [45], [46], [50]: pair papers and open papers."""

from orderless.alike import alike_at
from orderless.arriving import arriving_at
from orderless.noticing import open_pairs
from orderless.openchecker import lets_open, lets_pair
from orderless.openpapers import open_paper, pair_paper
from orderless.orders import prefixes_of, unordered_pairs
from tests.paperwork import Verdicts
from tests.samples import CELLS, CHAIN, NINE, NOTHING, PAIRED, PROG, TABLES, Case, free_rules, some_programs

HIDDEN = (tuple(row[:5] + (False,) + row[6:] for row in CELLS),) + PROG[1:]
SOME = [PROG, PAIRED, CHAIN, TABLES, HIDDEN, PROG[:3] + (0,), NOTHING, (NINE, free_rules(4), (), 1)] + some_programs(91, 50)


class OpenPapersTest(Case):
    def test_the_examples(self):
        self.same([pair_paper(PROG, "see", "twice")[0], lets_open(PROG, open_paper(PROG))],
                  ["closed", (("add", "see"), ("add", "twice"))])

    def test_by_name(self):
        self.same(pair_paper(program=PROG, one="twice", other="add")[0], "open")
        self.same(len(open_paper(program=PROG)), 3)

    def test_each_paper_is_accepted(self):
        found = {"open": 0, "closed": 0}
        for program in SOME:
            verdicts = Verdicts(program)
            pairs = open_pairs(program)
            paper = open_paper(program)
            self.same(lets_open(program, paper), pairs)
            self.same(verdicts.of_program(paper), ("accepted", pairs))
            for one, other in unordered_pairs(program):
                word = "open" if (one, other) in pairs else "closed"
                found[word] += 1
                for names in ((one, other), (other, one)):
                    paper = pair_paper(program, *names)
                    self.same(paper[0], word)
                    self.same(lets_pair(program, *names, paper), word)
                    self.same(verdicts.of_pair(*names, paper), ("accepted", word))
        self.assertTrue(min(found.values()) > 30)

    def test_papers_of_one_word_only(self):
        """Tables are the best ones, and no trace is accepted for a pair that is not open."""
        for program in SOME[:20]:
            slowly = Verdicts(program).slowly
            traces = [(start, order[:k], order[k + 2:]) for start in slowly.starts for order in slowly.orders(slowly.names)
                      for k in range(len(order) - 1)]
            tables = open_paper(program)[:2]
            for pair in unordered_pairs(program):
                accepted = [self.verdict(lets_pair, program, *pair, ("open",) + trace)[0] for trace in traces[:200]]
                closed = self.verdict(lets_pair, program, *pair, ("closed",) + tables)[0]
                if pair in open_pairs(program):
                    self.assertEqual(closed, "noticed")
                else:
                    self.assertEqual(("accepted" in accepted, closed), (False, "accepted"))

    def test_tables(self):
        for program in (PROG, CHAIN, TABLES, NOTHING):
            arriving, classes, rows = open_paper(program)
            prefixes = prefixes_of(program)
            self.same(tuple(row[0] for row in rows), tuple(pair[0] for pair in unordered_pairs(program)))
            self.assertEqual([[row[0] for row in table] for table in (arriving, classes)], [list(prefixes)] * 2)
            self.assertEqual([type(part) for part in (arriving, classes, rows)], [tuple] * 3)
            self.same(arriving, tuple((prefix, arriving_at(program, prefix)) for prefix in prefixes))
            self.same(classes, tuple((prefix, alike_at(program, prefix)) for prefix in prefixes))

    def test_without_pairs(self):
        self.same(open_paper(NOTHING), ((((), (0,)),), (((), (0,)),), ()))
        self.same(open_paper(CHAIN)[2], ())

    def test_unknown_rules(self):
        self.unknown(pair_paper, PROG, 2)
        self.unknown(lets_pair, PROG, 2, None)
        self.unknown(lets_pair, PROG, 2, ("open", (0, 1), (), ("see",)))
