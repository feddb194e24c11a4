"""[21], [76], [77] and the section linereadings."""

from orderless.errors import InvalidText
from orderless.linereadings import read_log, read_step
from orderless.steplines import log_lines, step_line
from tests.samples import LONG, MIXED, SMALL, Case, chance_of, some_expression, some_rule
from tests.slowlines import wrong_field
from tests.steps import LINES, some_row

OTHER_WORDS = ("", "-", "x", "X", "0", "1", "-1", "-0", "01", "1,2", ",", "1,", ",1", "1,,2", "(", ")", "set", "when", "at", "+", "=", "both",
               "cell", "rule", "inputs", "pair", "abcdefghi", "x\n", "1\n", "\n", "not", "div", "if", str(LONG), f"-{LONG}", f"{LONG}0", f"-{LONG}0")


class ReadStepTest(Case):
    def wrong(self, field, text, line=0):
        self.assertEqual(wrong_field(text), field)
        self.refuses(InvalidText, {"line": line, "field": field}, read_step, text)
        self.refuses(InvalidText, {"line": 2, "field": field}, read_log, ["unrule a", "inputs -", text, "", "unrule"])

    def try_out(self, text):
        """The reader agrees with the second one; what is read writes the same line."""
        field = wrong_field(text)
        if field is None:
            self.same(step_line(read_step(text)), text)
        else:
            self.refuses(InvalidText, {"line": 0, "field": field}, read_step, text)

    def test_the_example(self):
        self.refuses(InvalidText, {"line": 1, "field": 3}, read_log, ["pair a b", "decide a b c"])

    def test_by_name(self):
        self.same([read_step(text="unrule a"), read_log(lines=["unrule a"])], [("unrule", "a"), (("unrule", "a"),)])

    def test_each_form_there_and_back(self):
        for step, line in LINES:
            self.same(read_step(line), step)
            self.same(step_line(read_step(line)), line)
        self.same(read_log([line for _, line in LINES]), tuple(step for step, _ in LINES))
        self.same(log_lines(read_log([line for _, line in LINES])), [line for _, line in LINES])
        self.same(read_log([]), ())

    def test_steps_by_chance_there_and_back(self):
        chance = chance_of(71)
        for _ in range(300):
            cells = chance.choice((SMALL, MIXED))
            for step in (("rule", some_rule(chance, cells, 3)), ("starts", some_expression(chance, cells, 3)), ("cell", some_row(chance)),
                         ("inputs", tuple(chance.randint(-12, 12) for _ in range(chance.randint(0, 4))))):
                self.same(read_step(step_line(step)), step)

    def test_steps_that_are_barred_are_read(self):
        self.same(read_step("cell x 0 5 3 0 both"), ("cell", ("x", 0, 5, 3, True, True, 0)))
        self.same(read_step("cell x 0 0 3 1 input"), ("cell", ("x", 0, 0, 3, True, False, 1)))
        self.same(read_step(f"cell x {LONG} 0 0 0 hidden"), ("cell", ("x", LONG, 0, 0, False, False, 0)))
        self.same(read_step("pair a a"), ("pair", "a", "a"))
        self.same(read_step("starts ( at none x )"), ("starts", ("at", "none", "x")))

    def test_the_first_word(self):
        for text in ("", " ", "  ", "-", "- unrule a", " unrule a", "\n", "unrule\n a", "unrules a", "Unrule a", "open", "by a", "bars unrule a",
                     "undo", "new", "1", "( + 1 1 )", "setinputs 1", "unrule\ta", "x"):
            self.wrong(0, text)

    def test_a_word_that_is_missing(self):
        for text in ("cell", "uncell", "rule", "unrule", "pair", "unpair", "starts", "decide", "undecide", "inputs"):
            self.wrong(1, text)
        for field, text in ((2, "cell x"), (6, "cell x 0 0 3 0"), (2, "pair a"), (2, "decide a"), (2, "undecide a"), (2, "unpair a"), (2, "rule a"),
                            (3, "rule a when"), (4, "rule a when 1"), (5, "rule a when 1 set"), (6, "rule a when 1 set x"), (2, "starts ("),
                            (3, "starts ( +"), (4, "starts ( + 1"), (5, "starts ( + 1 1"), (7, "rule a when 1 set x ("), (8, "rule a when 1 set x 1 set")):
            self.wrong(field, text)

    def test_a_word_too_many(self):
        for field, text in ((2, "uncell x y"), (2, "unrule x y"), (3, "pair a b c"), (3, "unpair a b c"), (3, "decide a b c"), (3, "undecide a b c"),
                            (2, "inputs 1 2"), (2, "inputs - -"), (2, "starts 1 1"), (7, "cell x 0 0 3 0 both x"), (7, "rule a when 1 set x 1 1"),
                            (6, "starts ( + 1 1 ) )"), (2, "unrule a "), (2, "inputs 1 "), (6, "starts ( + 1 1 ) ")):
            self.wrong(field, text)

    def test_blanks_and_newlines(self):
        for field, text in ((1, "unrule  a"), (2, "pair a  b"), (1, "inputs "), (1, "unrule "), (3, "starts ( +  1 1 )"), (1, "unrule a\n"), (1, "unrule \na"),
                            (2, "pair a b\n"), (1, "inputs 1\n"), (1, "inputs -\n"), (1, "starts 1\nunrule a"), (6, "cell x 0 0 3 0 both\n"), (1, "pair a\nb")):
            self.wrong(field, text)

    def test_numbers(self):
        for word in (str(LONG), f"-{LONG}", "1" + "0" * 59):
            self.same(read_step(f"inputs {word}"), ("inputs", (int(word),)))
            self.same(read_step(f"starts {word}"), ("starts", int(word)))
        for word in (f"{LONG}0", f"-{LONG}0", "1" + "0" * 60, "-0", "01", "00", "-01", "+1", "1.0", "--1", "1-", "0x1", "1_0", "9" * 2000):
            self.wrong(1, f"inputs {word}")
            self.wrong(1, f"inputs 1,{word},2")
            self.wrong(1, f"starts {word}")
            self.wrong(3, f"cell x 0 {word} 3 0 both")
            self.wrong(2, f"cell x {word} 0 3 0 both")
            self.wrong(4, f"starts ( div x {word} )")
        for word in ("-1", "-", "x"):
            self.wrong(2, f"cell x {word} 0 3 0 both")
            self.wrong(4, f"starts ( mod x {word} )")
        self.wrong(4, "starts ( div x 0 )")

    def test_values(self):
        for word in (",", "1,", ",1", "1,,2", "1,-", "-,1", "--", "1,x", "x", "(", "1;2", "1, 2"):
            self.wrong(1, f"inputs {word}")
        self.same(read_step("inputs 0,-1,2"), ("inputs", (0, -1, 2)))

    def test_names(self):
        for name in ("", "A", "abcdefghi", "a1", "a_b", "-", "1", "a.b", "(", ")"):
            self.wrong(1, f"unrule {name}")
            self.wrong(1, f"cell {name} 0 0 3 0 both")
            self.wrong(1, f"pair {name} b")
            self.wrong(2, f"pair b {name}")
            self.wrong(1, f"rule {name} when 1 set x 1")
        for name in ("a", "abcdefgh", "cell", "rule", "at", "if", "set", "when", "inputs", "not"):
            self.same(read_step(f"unrule {name}"), ("unrule", name))
            self.same(read_step(f"decide {name} {name}"), ("decide", name, name))

    def test_each_word_left_out_doubled_or_changed(self):
        for _, line in LINES:
            words = line.split(" ")
            for k in range(len(words) + 1):
                self.try_out(" ".join(words[:k] + words[k + 1:]))
                self.try_out(" ".join(words[:k]))
                for word in OTHER_WORDS:
                    self.try_out(" ".join(words[:k] + [word] + words[k:]))
                    self.try_out(" ".join(words[:k] + [word] + words[k + 1:]))

    def test_each_character_left_out_or_changed(self):
        for _, line in LINES:
            for k in range(len(line) + 1):
                self.try_out(line[:k] + line[k + 1:])
                for character in " -0,(x\n":
                    self.try_out(line[:k] + character + line[k:])

    def test_the_number_of_the_line(self):
        lines = [line for _, line in LINES]
        for k in range(len(lines)):
            self.refuses(InvalidText, {"line": k, "field": 0}, read_log, lines[:k] + [""] + lines[k:])
            self.refuses(InvalidText, {"line": k, "field": 1}, read_log, lines[:k] + ["unrule"] + lines[k:] + ["", "x"])
        self.refuses(InvalidText, {"line": 0, "field": 0}, read_log, ["", "unrule a"])
