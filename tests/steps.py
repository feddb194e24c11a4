"""Steps of each form, with their lines, and steps made by chance."""

from tests.samples import LONG, lively_rule, some_expression, some_rule

LINES = (
    (("cell", ("x", 0, 0, 3, True, True, 0)), "cell x 0 0 3 0 both"),
    (("cell", ("cell", 2, -5, 5, False, False, -1)), "cell cell 2 -5 5 -1 hidden"),
    (("cell", ("t", 10, 0, LONG, False, True, LONG)), f"cell t 10 0 {LONG} {LONG} shown"),
    (("cell", ("abcdefgh", 0, -LONG, 0, True, False, -LONG)), f"cell abcdefgh 0 -{LONG} 0 -{LONG} input"),
    (("uncell", "x"), "uncell x"),
    (("rule", ("add", 1, (("x", ("+", "x", 1)),))), "rule add when 1 set x ( + x 1 )"),
    (("rule", ("rule", "when", (("set", "set"), (("at", "at"), ("at", "at", "at"))))), "rule rule when when set set set set ( at at at ) ( at at at )"),
    (("rule", ("r", ("and", ("not", "a"), -1), (("y", ("if", "a", ("div", "b", 2), ("mod", "c", 3))),))),
     "rule r when ( and ( not a ) -1 ) set y ( if a ( div b 2 ) ( mod c 3 ) )"),
    (("unrule", "unrule"), "unrule unrule"),
    (("pair", "a", "b"), "pair a b"),
    (("pair", "pair", "pair"), "pair pair pair"),
    (("unpair", "a", "b"), "unpair a b"),
    (("starts", 1), "starts 1"),
    (("starts", "starts"), "starts starts"),
    (("starts", ("<=", ("neg", "x"), ("least", 2, ("most", "y", LONG)))), f"starts ( <= ( neg x ) ( least 2 ( most y {LONG} ) ) )"),
    (("decide", "b", "a"), "decide b a"),
    (("undecide", "b", "a"), "undecide b a"),
    (("inputs", ()), "inputs -"),
    (("inputs", (0,)), "inputs 0"),
    (("inputs", (3, -1, 0, LONG)), f"inputs 3,-1,0,{LONG}"),
)

NAMES = ("a", "b", "c", "d")
CELL_NAMES = ("p", "q", "t")


def some_row(chance):
    name = chance.choice(CELL_NAMES)
    low = chance.choice((0, 0, -1))
    is_input = chance.random() < 0.6
    high = low + chance.choice((0, 1, 1, 2))
    size = chance.choice((1, 2)) if name == "t" else 0
    return (name, size, low, high, is_input, chance.random() < 0.6, low if is_input else chance.randint(low, high))


def some_step(chance, program, decisions, inputs):
    """A step, barred or not, near a program with decisions and inputs."""
    cells, rules, pairs, _ = program
    rows = cells or (("p", 0, 0, 1, True, True, 0), ("t", 1, 0, 1, True, True, 0))
    name, other = (chance.choice([rule[0] for rule in rules] + [chance.choice(NAMES)]) for _ in range(2))
    maker = chance.choice((some_rule, lively_rule, lively_rule))
    edits = {
        "cell": lambda: ("cell", some_row(chance)),
        "uncell": lambda: ("uncell", chance.choice(CELL_NAMES)),
        "rule": lambda: ("rule", (chance.choice(NAMES),) + maker(chance, rows, 2)[1:]),
        "unrule": lambda: ("unrule", name),
        "pair": lambda: ("pair", name, other),
        "unpair": lambda: ("unpair",) + chance.choice(pairs + ((name, other),)),
        "starts": lambda: ("starts", chance.choice((1, 1, 0, some_expression(chance, rows, 1)))),
        "decide": lambda: ("decide", name, other),
        "undecide": lambda: ("undecide",) + chance.choice(decisions + ((name, other),)),
        "inputs": lambda: ("inputs", tuple(chance.randint(-1, 2) for _ in range(max(0, len(inputs) - (chance.random() < 0.1))))),
    }
    words = ["cell"] * 2 + ["rule"] * 4 + ["decide"] * 3 + ["inputs"] * 3 + ["pair", "unpair", "undecide", "starts", "uncell", "unrule"]
    return edits[chance.choice(words)]()


# Values of which none is a step by kind.
NO_STEPS = (
    None, True, 0, "", "cell", "unrule a", (), ("cell",), ("unrule",), ("inputs",), ("starts",), ("pair", "a"), ("decide",),
    ["unrule", "a"], ["inputs", ()], ("unrule", "a", "b"), ("uncell", "a", "b"), ("inputs", (), ()), ("starts", 1, 1), ("pair", "a", "b", "c"),
    ("cell", None), ("cell", ()), ("cell", "x"), ("cell", ["x", 0, 0, 3, True, True, 0]), ("cell", ("x", 0, 0, 3, 1, True, 0)),
    ("cell", ("x", 0, 0, 3, True, 0, 0)), ("cell", ("x", 0, 0, 3, True, True)), ("cell", ("x", -1, 0, 3, True, True, 0)),
    ("cell", ("x", True, 0, 3, True, True, 0)), ("cell", ("x", 0, False, 3, True, True, 0)), ("cell", ("x", 0, 0, 3, True, True, 1)),
    ("cell", ("x", 0, 4, 3, False, True, 4)), ("cell", ("x", 0, 0, 3, False, True, 4)), ("cell", ("X", 0, 0, 3, True, True, 0)),
    ("cell", ("abcdefghi", 0, 0, 3, True, True, 0)), ("cell", ("x", 0, 0, 3, True, True, 0), 1),
    ("uncell", None), ("uncell", "X"), ("uncell", ""), ("uncell", ("x",)), ("unrule", 1), ("unrule", "a b"), ("unrule", ["a"]),
    ("rule", None), ("rule", ()), ("rule", ("a", 1)), ("rule", ("a", 1, ())), ("rule", ("a", 1, (("x", True),))), ("rule", ("a", None, (("x", 1),))),
    ("rule", ["a", 1, (("x", 1),)]), ("rule", ("a", 1, [("x", 1)])), ("rule", ("A", 1, (("x", 1),))), ("rule", ("a", ("div", 1, 0), (("x", 1),))),
    ("pair", "a", 1), ("pair", None, "a"), ("unpair", "a", "B"), ("decide", "a", ""), ("undecide", ("a", "b")), ("decide", ("a", "b")),
    ("starts", None), ("starts", True), ("starts", ("+", 1)), ("starts", ["+", 1, 1]), ("starts", "X"), ("starts", ("mod", 1, 0)),
    ("inputs", None), ("inputs", 0), ("inputs", [0]), ("inputs", (True,)), ("inputs", (0, None)), ("inputs", ("0",)), ("inputs", ((0,),)),
    ("by", "a"), ("undo",), ("Cell", "x"), ("cells", "x"), ("", "a"), (None, "a"), (True, 1), (("cell",), "x"), (["unrule"], "a"), ("open", "a"),
    (("unrule", "a"), ("unrule", "b")),
)
