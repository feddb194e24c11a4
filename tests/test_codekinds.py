"""[2], [52] and is_code."""

from orderless.codekinds import is_code
from tests.samples import CODE, LONG, ODD_VALUES, OPERATORS, Case, changed_once
from tests.slowcode import is_instruction

RIGHT = (
    ("const", 0, 0), ("const", 31, -5), ("const", 1, LONG), ("const", 1, -LONG), ("load", 0, "x"), ("load", 31, "abcdefgh"),
    ("load", 5, ("t", 0)), ("load", 5, ("t", LONG)), ("loadat", 0, "t", 31), ("loadat", 3, "at", 3), ("store", "x", 0),
    ("store", ("t", 1), 31), ("storeat", "t", 0, 31), ("jump", 0), ("jump", LONG), ("unless", 0, 0), ("unless", 31, LONG),
    ("end",),
) + tuple(("do", op, 0, 31, 5) for op in OPERATORS)

WRONG = (
    (), ("",), ("End",), ("end", 0), ("stop",), (True,), (1,), ((),), (None,), ("const",), ("const", 0), ("const", 0, 0, 0),
    ("const", 32, 0), ("const", -1, 0), ("const", True, 0), ("const", 0, True), ("const", 0, "x"), ("const", 0, None),
    ("const", "0", 0), ("const", 0, "0"), ("const", (0,), 0), ("const", 0, ("t", 0)), ("const", 0, ()),
    ("do", "+", 0, 0), ("do", "+", 0, 0, 0, 0), ("do", "and", 0, 0, 0), ("do", "or", 0, 0, 0), ("do", "not", 0, 0, 0),
    ("do", "neg", 0, 0, 0), ("do", "if", 0, 0, 0), ("do", "at", 0, 0, 0), ("do", "", 0, 0, 0), ("do", "++", 0, 0, 0),
    ("do", None, 0, 0, 0), ("do", ["+"], 0, 0, 0), ("do", ("+",), 0, 0, 0), ("do", 0, 0, 0, 0), ("do", "+", 32, 0, 0),
    ("do", "+", 0, 32, 0), ("do", "+", 0, 0, 32), ("do", "+", -1, 0, 0), ("do", "+", 0, False, 0), ("do", "+", 0, 0, "x"),
    ("load", 0), ("load", "x", 0), ("load", 32, "x"), ("load", 0, "X"), ("load", 0, ""), ("load", 0, "abcdefghi"),
    ("load", 0, 0), ("load", 0, ("t",)), ("load", 0, ("t", -1)), ("load", 0, ("t", True)), ("load", 0, ("t", "i")),
    ("load", 0, ("T", 0)), ("load", 0, ["t", 0]), ("load", 0, ("t", 0, 0)), ("load", 0, (0, "t")), ("load", 0, ()),
    ("load", 0, "x", 0), ("load", True, "x"), ("load", 0, "t.0"), ("load", 0, None),
    ("loadat", 0, "t"), ("loadat", 0, "t", 32), ("loadat", 32, "t", 0), ("loadat", 0, 0, "t"), ("loadat", "t", 0, 0),
    ("loadat", 0, ("t", 0), 0), ("loadat", 0, "t", -1), ("loadat", 0, "t", False), ("loadat", 0, "", 0), ("loadat", 0, "t", 0, 0),
    ("store", 0, "x"), ("store", "x"), ("store", "x", 32), ("store", "x", 0, 0), ("store", ("t", -1), 0), ("store", "x", True),
    ("store", ("t", None), 0), ("store", "x y", 0), ("store", None, 0), ("store", ("t", "0"), 0),
    ("storeat", "t", 0), ("storeat", "t", 0, 32), ("storeat", "t", 32, 0), ("storeat", 0, "t", 0), ("storeat", ("t", 0), 0, 0),
    ("storeat", "t", 0, 0, 0), ("storeat", "t", True, 0), ("storeat", "t", 0, None),
    ("jump",), ("jump", -1), ("jump", True), ("jump", "0"), ("jump", 0, 0), ("jump", None), ("jump", (1,)),
    ("unless", 0), ("unless", 32, 0), ("unless", 0, -1), ("unless", 0, False), ("unless", "x", 0), ("unless", 0, 0, 0),
    ["end"], ["const", 0, 0], "end", 0, None, True, {}, ("halt", 0), (("end",),),
)


class IsCodeTest(Case):
    def test_right_instructions(self):
        for instruction in RIGHT:
            self.assertIs(is_code((instruction,)), True, instruction)
            self.assertIs(is_code((instruction, ("end",), instruction)), True)
        self.assertIs(is_code(RIGHT), True)
        self.assertIs(is_code(thing=CODE), True)

    def test_wrong_instructions(self):
        for instruction in WRONG:
            self.assertIs(is_code((instruction,)), False, instruction)
            self.assertIs(is_code((("end",), instruction)), False)
            self.assertIs(is_code((instruction, ("end",))), False)

    def test_the_empty_code(self):
        self.assertIs(is_code(()), True)
        self.assertIs(is_code([]), False)

    def test_whether_it_fits_cells_does_not_matter(self):
        self.assertIs(is_code((("jump", 0), ("unless", 0, 0), ("load", 0, "nowhere"), ("store", ("none", 99), 1))), True)

    def test_values_of_other_kinds(self):
        for thing in ODD_VALUES:
            self.assertIs(is_code(thing), thing == ())
            self.assertIs(is_code((thing,)), False)
        for thing in (list(CODE), CODE[0], "end", ("end",), (CODE,), {}, {("end",): 1}, 0):
            self.assertIs(is_code(thing), False, thing)

    def test_code_with_any_part_changed(self):
        for code in (CODE, RIGHT[:12], RIGHT[12:19]):
            before = repr(code)
            for thing in changed_once(code):
                right = type(thing) is tuple and all(map(is_instruction, thing))
                self.assertIs(is_code(thing), right, thing)
            self.assertEqual(repr(code), before)

    def test_many_instructions(self):
        self.assertIs(is_code((("end",),) * 1600), True)
        self.assertIs(is_code((("end",),) * 1600 + (("end", 1),)), False)
