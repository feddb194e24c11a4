"""L5 Properties of ../shared/LANGUAGE.md: what runs when a property is read, or by a sign, is no generator."""

import inspect
import pathlib
import sys
import unittest

from orderless.workshops import Workshop
from tests.following import Source, has_yield, written
from tests.samples import CHAIN, FREE, PAIRED, PROG, TABLES

PACKAGE = pathlib.Path(__file__).resolve().parent.parent / "orderless"
TEXTS = {path.stem: path.read_text() for path in sorted(PACKAGE.glob("*.py"))}
SOURCE = Source(TEXTS)

PROPERTIES = ("program", "decided", "decisions", "inputs", "open_pairs", "is_settled", "result", "record")
GENERATORS = {
    "interleaving.schedules_of", "orders.exchanges_of", "orders.legal_orders", "states.all_states", "states.starts_of",
    "workshops.Workshop.choices"}


def edited(stem, *swaps):
    """The source of the package with swaps of texts in one module."""
    text = TEXTS[stem]
    for old, new in swaps:
        assert old in text, old
        text = text.replace(old, new)
    return Source(TEXTS | {stem: text})


def roots_of(source):
    return source.getters() + source.run_by_signs()


def generators_run(function, *parts):
    """The names of all generators that run while a function is called."""
    seen = []

    def look(frame, event, _):
        if event == "call" and frame.f_code.co_flags & inspect.CO_GENERATOR:
            seen.append(frame.f_code.co_name)

    before = sys.getprofile()
    sys.setprofile(look)
    try:
        function(*parts)
    finally:
        sys.setprofile(before)
    return seen


class SourceTest(unittest.TestCase):
    def test_no_generator_is_followed(self):
        for root in roots_of(SOURCE):
            with self.subTest(written(root)):
                self.assertEqual(SOURCE.ways_to_yield([root]), [])

    def test_what_is_followed(self):
        places = {written(place) for place in SOURCE.getters()}
        self.assertEqual({f"workshops.Workshop.{name}" for name in PROPERTIES} - places, set())
        by_signs = {written(place) for place in SOURCE.run_by_signs()}
        for owner, names in (("workshops.Workshop", "eq str len ne contains getitem iter"), ("ruleclasses.Rule", "eq str len contains"),
                             ("expressionclasses.Expression", "eq str add invert"), ("expressionclasses.Table", "getitem iter")):
            self.assertEqual({f"{owner}.__{name}__" for name in names.split()} - by_signs, set())
        for root in ("open_pairs", "is_settled", "result"):
            found = {written(place) for place in SOURCE.reached_from([("workshops", "Workshop", root)])}
            for name in ("contents.decided_program", "moves.moves_of", "expressions.evaluated", "states.start_list",
                         "states.state_list", "orders.prefixes_by_length"):
                self.assertIn(name, found)
        found = {written(place) for place in SOURCE.reached_from([("workshops", "Workshop", "open_pairs")])}
        self.assertIn("orders.exchange_list", found)
        found = {written(place) for place in SOURCE.reached_from([("workshops", "Workshop", "__str__")])}
        self.assertLessEqual({"workshops.Workshop.log", "steplines.log_lines"}, found)

    def test_nothing_held_is_called(self):
        for place in SOURCE.reached_from(SOURCE.getters()):
            self.assertEqual(SOURCE.calls_of_held(place), [], written(place))

    def test_generators_stay(self):
        made = {written(place) for place, function in SOURCE.functions.items() if has_yield(function)}
        self.assertEqual(made, GENERATORS)

    def test_a_generator_put_back_is_found(self):
        for stem, swaps, ends in (
                ("moves", [("state_list", "all_states")], {"states.all_states"}),
                ("alike", [("state_list", "all_states")], {"states.all_states"}),
                ("running", [("start_list", "starts_of"), ("state_list", "all_states")], {"states.all_states", "states.starts_of"}),
                ("arriving", [("start_list", "starts_of")], {"states.starts_of"}),
                ("noticing", [("exchange_list", "exchanges_of")], {"orders.exchanges_of"}),
                ("workshops", [("return self._now()[1]", "return tuple(self.choices())")], {"workshops.Workshop.choices"}),
                ("workshops", [("return len(self._now()[0][1])", "return len(list(self.choices()))")], {"workshops.Workshop.choices"})):
            source = edited(stem, *swaps)
            found = source.ways_to_yield(roots_of(source))
            self.assertEqual({way.rpartition(" > ")[2] for way in found}, ends, stem)

    def test_a_call_of_what_is_held_is_found(self):
        for stem, swap, call in (
                ("states", ("for low, high in ranges:", "for low, high in ranges():"), "ranges"),
                ("cells", ("return max(1, row[1])", "return row[1]()"), "row[1]"),
                ("cells", ("return max(1, row[1])", "return row.told()"), "row.told"),
                ("cells", ("return max(1, row[1])", "return max(row, key=row)"), "row"),
                ("cells", ("return max(1, row[1])", "return next(row)"), "next")):
            source = edited(stem, swap)
            found = [one for place in source.reached_from(source.getters()) for one in source.calls_of_held(place)]
            self.assertEqual(found, [call], stem)


class FollowingTest(unittest.TestCase):
    """Each way that can lead to a function with yield is followed."""

    def finds(self, many, **texts):
        source = Source({stem: "\n".join(lines) for stem, lines in texts.items()})
        self.assertEqual(len(source.ways_to_yield(roots_of(source))), many, texts)

    def lead(self, *rows, more=(), many=1):
        """A property with these rows leads to so many functions with yield: steps, and a method walk."""
        head = ["def steps():", " yield 1", "def plain():", " return 1", "class Walker:", " def walk(self):", "  yield 1"]
        self.finds(many, one=head + list(more) + ["class Box:", " @property", " def many(self):"] + [f"  {row}" for row in rows])

    def test_functions(self):
        self.lead("return 1", many=0)
        self.lead("return plain()", many=0)
        self.lead("return list(steps())")
        self.lead("return sorted([1], key=steps)")
        self.lead("def inner():", " return list(steps())", "return inner()")
        self.lead("def inner():", " yield 1", "return list(inner())")
        self.lead("yield from [1]")
        self.lead("return further()", more=["def further():", " return list(steps())"])
        self.lead("return TABLE[0]()", more=["TABLE = {0: steps}"])

    def test_methods(self):
        self.lead("return list(self.held.walk())")
        self.lead("return self.other", more=["class Other:", " @property", " def other(self):", "  return list(steps())"])
        self.lead("self.other = 1", more=["class Other:", " def other(self):", "  return 1", " @other.setter",
                                          " def other(self, value):", "  list(steps())"])
        self.lead("return self.other", many=0, more=["class Other:", " def other(self):", "  return 1", " @other.setter",
                                                     " def other(self, value):", "  list(steps())"])

    def test_classes(self):
        base = ["class Base:", " def __init__(self):", "  list(steps())", " def told(self):", "  return list(steps())"]
        below = base + ["class Below(Base):", " def __init__(self):", "  Base.__init__(self)"]
        apart = base + ["class Apart:", " def __init__(self):", "  self.rows = []"]
        self.lead("return Base()", more=base)
        self.lead("return Below()", more=below)
        self.lead("return Apart()", more=apart, many=0)
        self.lead("return self.told()", more=base)

    def test_other_files(self):
        box = ["from orderless.two import further", "class Box:", " def __len__(self):", "  return further(self)"]
        self.finds(1, one=box, two=["def further(box):", " yield 1"])
        self.finds(1, one=box, two=["from orderless.three import steps", "def further(box):", " return list(steps())"],
                   three=["def steps():", " yield from [1]"])
        self.finds(0, one=box, two=["def further(box):", " return 1", "def steps():", " yield 1"])

    def test_signs(self):
        for name in ("eq", "repr", "str", "len", "ne", "add", "contains", "getitem", "iter", "bool"):
            self.finds(1, one=["def steps():", " yield 1", "class Box:", f" def __{name}__(self):", "  return list(steps())"])
        self.finds(0, one=["def steps():", " yield 1", "class Box:", " def told(self):", "  return list(steps())"])

    def test_super(self):
        up = ["class Up:", " def told(self):", "  return list(steps())", "class Mid(Up):", " def some(self):", "  return super().told()"]
        self.lead("return self.some()", more=up)


class RunTest(unittest.TestCase):
    """No generator runs in Python itself, either."""

    def test_looking(self):
        self.assertEqual(generators_run(len, ()), [])
        self.assertIn("choices", generators_run(list, Workshop.of(PROG).choices()))
        self.assertIn("<genexpr>", generators_run(sum, (k for k in range(3))))

    def test_reading(self):
        never = PROG[:3] + (0,)
        for program in (PROG, PAIRED, CHAIN, TABLES, FREE, never):
            workshop = Workshop.of(program)
            other = Workshop.read("\n".join(str(workshop).split(" / ")))
            for name in PROPERTIES:
                self.assertEqual(generators_run(getattr, workshop, name), [], name)
            for function in (len, str, repr, bool):
                self.assertEqual(generators_run(function, workshop), [])
            self.assertEqual(generators_run(workshop.__eq__, other), [])
            self.assertEqual(generators_run(workshop.__ne__, other), [])
            self.assertTrue(workshop == other)
