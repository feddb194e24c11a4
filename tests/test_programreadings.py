"""[21] and the section programreadings."""

from orderless.errors import InvalidText
from orderless.programreadings import cell_read, expression_read, program_read, rule_read
from orderless.programtexts import cell_text, expression_text, program_text, rule_text
from tests.samples import Case

SIXTY = "1" + "0" * 59


class ReadingCase(Case):
    def stops(self, function, text, field, line=0):
        self.refuses(InvalidText, {"line": line, "field": field}, function, text)

    def all_stop(self, function, rows):
        """Each of (text, field) is wrong; the parameters line and field are told, and added."""
        for text, field in rows:
            with self.subTest(text=text):
                self.stops(function, text, field)
                self.refuses(InvalidText, {"line": 7, "field": field + 3}, function, text, line=7, field=3)
                self.refuses(InvalidText, {"line": 7, "field": field}, function, text=text, line=7)

    def cut_short(self, function, text):
        """Each beginning of a text lacks its next word; each longer text has a word too many."""
        words = text.split(" ")
        for many in range(1, len(words)):
            self.stops(function, " ".join(words[:many]), many)
        for more in ("", "1", "x", ")", "(", "-", "when"):
            self.stops(function, text + " " + more, len(words))

    def blanks(self, function, text):
        """An empty word stands nowhere."""
        words = text.split(" ")
        self.stops(function, "", 0)
        self.stops(function, " ", 0)
        for k in range(len(words) + 1):
            self.stops(function, " ".join(words[:k] + [""] + words[k:]), k)
        for k in range(len(words)):
            for bad in ("X", "\n", words[k] + "\n", "\n" + words[k], "x_y", "abcdefghi", ".", "1x"):
                self.stops(function, " ".join(words[:k] + [bad] + words[k + 1:]), k)


class ExamplesTest(ReadingCase):
    def test_as_printed(self):
        found = [expression_read("( at at at )"), rule_read("when when when set set set")]
        self.same(found, [("at", "at", "at"), ("when", "when", (("set", "set"),))])
        self.refuses(InvalidText, {"line": 4, "field": 5}, expression_read, "( + x )", line=4, field=2)
        self.stops(rule_read, "add when 1", 3)
        self.stops(program_read, "cell x 0 0 3 0 input\nstarts 1\n", 0, 2)


class ExpressionsTest(ReadingCase):
    def test_words_too_few_too_many_and_empty(self):
        for text in ("( + x 1 )", "( at t ( + i 1 ) )", "( div x 2 )", "( if a ( not b ) ( neg -1 ) )", "( mod ( < x 1 ) 3 )"):
            self.assertEqual(expression_text(expression_read(text)), text)
            self.cut_short(expression_read, text)
            self.blanks(expression_read, text)
        self.all_stop(expression_read, (("", 0), (" ", 0), ("x ", 1), (" x", 0), ("x 1", 1), ("1 1", 1), ("x )", 1), ("1 (", 1)))

    def test_numbers(self):
        for text in ("0", "1", "10", "-1", "-10", SIXTY, "-" + SIXTY):
            self.same(expression_read(text), int(text))
            self.same(expression_read(f"( + {text} {text} )"), ("+", int(text), int(text)))
        for text in ("-0", "01", "00", "-01", "-00", SIXTY + "0", "-" + SIXTY + "0", "0" * 61, "--1", "+1", "1-", "1.0", "1_0",
                     "-", "- 1", "0x1", "1e3", "-x"):
            self.stops(expression_read, text, 0)
            self.stops(expression_read, f"( + {text} 1 )", 2)
            self.stops(expression_read, f"( + 1 {text} )", 3)

    def test_names(self):
        for text in ("a", "at", "if", "set", "when", "rule", "cell", "pair", "starts", "not", "neg", "and", "or", "div", "mod",
                     "least", "most", "input", "both", "abcdefgh"):
            self.same(expression_read(text), text)
            self.same(expression_read(f"( at {text} {text} )"), ("at", text, text))
            self.same(expression_read(f"( not {text} )"), ("not", text))
        for text in ("abcdefghi", "X", "x1", "x.0", "t.0", "x'", "x\n", "\n", "at\n"):
            self.stops(expression_read, text, 0)
            self.stops(expression_read, f"( at {text} 0 )", 2)

    def test_wrong_words_at_each_place(self):
        self.all_stop(expression_read, (
            (")", 0), ("+", 0), ("-", 0), ("*", 0), ("=", 0), ("<", 0), ("<=", 0), ("()", 0), ("(+ x 1)", 0),
            ("( )", 1), ("( (", 1), ("( x", 1), ("( 1 2 3 )", 1), ("( x 1 )", 1), ("( max x 1 )", 1), ("( > x 1 )", 1),
            ("( / x 1 )", 1), ("( set x 1 )", 1), ("( when x )", 1), ("( \n x )", 1),
            ("( at 1 x )", 2), ("( at ( 1 )", 2), ("( at t )", 3), ("( at t 1 1 )", 4), ("( at t - )", 3),
            ("( not )", 2), ("( not x 1 )", 3), ("( not not x )", 3), ("( neg - )", 2),
            ("( + )", 2), ("( + x )", 3), ("( + x 1 1 )", 4), ("( + + 1 1 )", 2), ("( - - 1 )", 2), ("( - 1 - )", 3),
            ("( = x = )", 3), ("( and x )", 3), ("( and x ( )", 4),
            ("( if x 1 )", 4), ("( if x )", 3), ("( if )", 2), ("( if x 1 2 3 )", 5), ("( if if if if if )", 5),
            ("( div x )", 3), ("( div x 0 )", 3), ("( div x -1 )", 3), ("( div x x )", 3), ("( div x ( neg 1 ) )", 3),
            ("( div x 01 )", 3), ("( div x 1 1 )", 4), ("( div )", 2), ("( mod x 0 )", 3), ("( mod x -0 )", 3),
            ("( mod x y )", 3), ("( mod x " + SIXTY + "0 )", 3), ("( + ( + x 1 ) ( + x ) )", 10),
        ))
        self.same(expression_read("( neg neg )"), ("neg", "neg"))
        self.same(expression_read("( div x " + SIXTY + " )"), ("div", "x", int(SIXTY)))
        self.same(expression_read("( - 1 -1 )"), ("-", 1, -1))


class CellsTest(ReadingCase):
    def test_words_too_few_too_many_and_empty(self):
        for text in ("x 0 0 3 0 input", "at 12 -3 5 -1 hidden"):
            self.assertEqual(cell_text(cell_read(text)), text)
            self.cut_short(cell_read, text)
            self.blanks(cell_read, text)

    def test_wrong_words(self):
        self.all_stop(cell_read, (
            ("1 0 0 3 0 input", 0), ("( 0 0 3 0 input", 0), ("x -1 0 3 0 input", 1), ("x -0 0 3 0 input", 1),
            ("x 01 0 3 0 input", 1), ("x y 0 3 0 input", 1), ("x - 0 3 0 input", 1), ("x 0 x 3 0 input", 2),
            ("x 0 -0 3 0 input", 2), ("x 0 0 y 0 input", 3), ("x 0 0 03 0 input", 3), ("x 0 0 3 input", 4),
            ("x 0 0 3 - input", 4), ("x 0 0 3 0 0", 5), ("x 0 0 3 0 inputs", 5), ("x 0 0 3 0 Input", 5),
            ("x 0 0 3 0 True", 5), ("x 0 0 3 0 input shown", 6), ("x 0 " + SIXTY + "0 3 0 input", 2),
            ("x " + SIXTY + "0 0 3 0 input", 1), ("x 0 0 3 0 input\n", 5),
        ))

    def test_ranges_are_not_checked(self):
        self.same(cell_read("x 0 3 -3 9 input"), ("x", 0, 3, -3, True, False, 9))
        self.same(cell_read("x 0 0 3 1 both"), ("x", 0, 0, 3, True, True, 1))
        self.same(cell_read(f"x {SIXTY} -{SIXTY} 0 0 shown"), ("x", int(SIXTY), -int(SIXTY), 0, False, True, 0))


class RulesTest(ReadingCase):
    def test_words_too_few_and_empty(self):
        for text in ("add when 1 set x ( + x 1 )", "set when ( at t set ) set ( at when 0 ) set set set when"):
            self.assertEqual(rule_text(rule_read(text)), text)
            self.blanks(rule_read, text)
            for more in ("", "1", "x", ")", "(", "when", "sets"):
                self.stops(rule_read, text + " " + more, len(text.split(" ")))
        words = "add when 1 set ( at t i ) 1".split(" ")
        for many in range(1, len(words)):
            self.stops(rule_read, " ".join(words[:many]), many)
        self.stops(rule_read, "add when 1 set x 1 set", 7)
        self.stops(rule_read, "add when 1 set x 1 set y", 8)
        self.same(rule_read("add when 1 set x 1 set y 2"), ("add", 1, (("x", 1), ("y", 2))))

    def test_wrong_words(self):
        self.all_stop(rule_read, (
            ("1 when 1 set x 1", 0), ("( when 1 set x 1", 0), ("add set 1 set x 1", 1), ("add if 1 set x 1", 1),
            ("add 1 set x 1", 1), ("add when set x 1", 3), ("add when ) set x 1", 2), ("add when - set x 1", 2),
            ("add when 1 x 1", 3), ("add when 1 when x 1", 3), ("add when 1 1 set x 1", 3), ("add when 1 set 1 1", 4),
            ("add when 1 set - 1", 4), ("add when 1 set ( x 1", 5), ("add when 1 set ( not x ) 1", 5),
            ("add when 1 set ( + x 1 ) 1", 5), ("add when 1 set ( at 1 x ) 1", 6), ("add when 1 set ( at t ) 1", 7),
            ("add when 1 set ( at t 0 0 ) 1", 8), ("add when 1 set ( at t 0 1", 8), ("add when 1 set x )", 5),
            ("add when 1 set x 1 when", 6), ("add when 1 set x ( + x )", 8),
            ("add when ( + 1 ) set x 1", 5), ("add when 1 set ( ( at t 0 ) 1", 5), ("add when 1 set", 4), ("add", 1),
        ))

    def test_whether_it_fits_is_not_checked(self):
        self.same(rule_read("r when x set ( at x 0 ) 1 set x x"), ("r", "x", ((("x", 0), 1), ("x", "x"))))


class ProgramsTest(ReadingCase):
    LINES = ("cell x 0 0 3 0 input", "rule add when 1 set x ( + x 1 )", "pair add see", "starts ( < x 2 )")
    PARTS = (("x", 0, 0, 3, True, False, 0), ("add", 1, (("x", ("+", "x", 1)),)), ("add", "see"), ("<", "x", 2))

    def test_lines_that_are_missing(self):
        for skipped in range(8):
            kept = [k for k in range(3) if not skipped & 1 << k]
            text = "\n".join([self.LINES[k] for k in kept] + [self.LINES[3]])
            right = tuple((self.PARTS[k],) if k in kept else () for k in range(3)) + (self.PARTS[3],)
            self.same(program_read(text), right)
            self.same(program_read(text=text), right)
            self.assertEqual(program_text(right), text)

    def test_lines_several_times(self):
        text = "\n".join([line for line in self.LINES[:3] for _ in range(3)] + [self.LINES[3]])
        right = tuple((part,) * 3 for part in self.PARTS[:3]) + (self.PARTS[3],)
        self.same(program_read(text), right)

    def test_lines_in_another_order(self):
        cell, rule, pair, starts = self.LINES
        for lines, line in (((rule, cell, starts), 1), ((pair, cell, starts), 1), ((cell, pair, rule, starts), 2),
                            ((cell, rule, pair, pair, rule), 4), ((cell, rule, cell), 2), ((pair, rule, cell, starts), 1)):
            self.stops(program_read, "\n".join(lines), 0, line)

    def test_lines_behind_starts(self):
        for line in self.LINES + ("", " ", "x", "starts 1"):
            self.stops(program_read, "starts 1\n" + line, 0, 1)
            self.stops(program_read, "cell x 0 0 3 0 input\nstarts 1\n" + line, 0, 2)

    def test_without_starts(self):
        for many in (1, 2, 3):
            self.stops(program_read, "\n".join(self.LINES[:many]), 0, many)
        self.stops(program_read, self.LINES[0] + "\n", 0, 1)

    def test_empty_texts_and_lines(self):
        for text in ("", " ", "\n", "\nstarts 1", " starts 1", "  "):
            self.stops(program_read, text, 0, 0)
        self.stops(program_read, self.LINES[0] + "\n\nstarts 1", 0, 1)
        self.stops(program_read, self.LINES[0] + "\n starts 1", 0, 1)

    def test_wrong_first_words(self):
        for word in ("", "x", "cells", "Cell", "1", "(", "-", "uncell", "start", "decide", "cellx"):
            self.stops(program_read, f"{word} x 0 0 3 0 input\nstarts 1", 0, 0)
            self.stops(program_read, self.LINES[0] + f"\n{word} 1", 0, 1)

    def test_fields_of_lines(self):
        rows = (
            ("cell", 1), ("cell ", 1), ("cell x 0 0 3 0", 6), ("cell x 0 0 3 0 input ", 7), ("cell x 0 0 3 0 hid", 6),
            ("cell X 0 0 3 0 input", 1), ("rule", 1), ("rule add when 1", 4), ("rule add when 1 set x ( + x )", 9),
            ("rule add when 1 set x 1 1", 7), ("pair", 1), ("pair add", 2), ("pair add ", 2), ("pair 1 add", 1),
            ("pair add (", 2), ("pair add see see", 3), ("pair add see ", 3), ("starts", 1), ("starts ", 1),
            ("starts 1 1", 2), ("starts ( + 1 )", 4), ("starts 1 ", 2), ("cell  x 0 0 3 0 input", 1),
        )
        for text, field in rows:
            self.stops(program_read, text, field, 0)
            self.stops(program_read, text + "\nstarts 1", field, 0)
            self.stops(program_read, self.LINES[0] + "\n" + text, field, 1)

    def test_the_first_wrong_line(self):
        self.stops(program_read, "cell x 0 0 3 0 input\npair a\nrule x\n", 2, 1)
        self.stops(program_read, "cell x\nfoo", 2, 0)

    def test_names_like_words_of_the_forms(self):
        text = "cell cell 0 0 3 0 input\nrule rule when pair set starts when\npair pair pair\nstarts starts"
        right = ((("cell", 0, 0, 3, True, False, 0),), (("rule", "pair", (("starts", "when"),)),), (("pair", "pair"),), "starts")
        self.same(program_read(text), right)
        self.assertEqual(program_text(right), text)

    def test_what_is_not_checked(self):
        text = "cell x 0 3 0 9 input\ncell x 0 3 0 9 input\nrule b when y set x 1\nrule a when 1 set ( at x 0 ) 1\n" \
               "pair b b\npair a q\npair a b\nstarts nowhere"
        self.assertEqual(program_text(program_read(text)), text)
