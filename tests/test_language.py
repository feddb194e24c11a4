"""What can be seen mechanically of the rules of ../shared/LANGUAGE.md; the numbers are those of the rules.

In some points this is stricter than the rules: what they allow under conditions, and the package does not use, is
refused here instead of looking at the conditions.
"""

import ast
import builtins
import pathlib
import re
import unittest

PACKAGE = pathlib.Path(__file__).resolve().parent.parent / "orderless"
FILES = sorted(PACKAGE.glob("*.py"))
TREES = {path.stem: ast.parse(path.read_text()) for path in FILES}
NODES = {stem: list(ast.walk(tree)) for stem, tree in TREES.items()}
FUNCTIONS = (ast.FunctionDef, ast.AsyncFunctionDef)

BUILTINS = set("""len range enumerate zip min max sum abs sorted reversed int str bool bytes list tuple dict set frozenset
isinstance ord repr any all divmod map iter next Exception ValueError TypeError KeyError IndexError LookupError
ZeroDivisionError ArithmeticError OverflowError RuntimeError NotImplementedError AttributeError StopIteration
NotImplemented property staticmethod classmethod super""".split())

METHODS = set("""append clear copy count endswith extend find get index insert isalnum isalpha isdigit islower isspace
isupper items join keys ljust lower lstrip partition pop remove replace reverse rfind rjust rpartition rsplit rstrip
setdefault split splitlines startswith strip update upper values zfill bit_length add discard""".split())

DUNDERS = set("""init eq repr str len enter exit call iter lt le gt ge ne add sub mul floordiv mod pow and or xor lshift
rshift neg pos invert abs bool contains getitem setitem""".split())

NO_NAMES = set("""register mro elements open input law version_info with_traceback add_note""".split())

NO_OWN_NAMES = re.compile(r"(_cold|_tuplegetter|_outside|_record|_written_out|_member_names)[0-9_]*|"
                          r"(_wall|_pe_|_dcw_|_enum_|_cm_|_twin_re_|_lay_|_law_|_stub_|_sre|_WallAttr).*")

NO_WORDS = set("""type typing typing_extensions enum Enum IntEnum StrEnum Flag IntFlag Generic Protocol ABC ABCMeta
namedtuple NamedTuple TypedDict TYPE_CHECKING abstractmethod dataclass overload contextmanager""".split())


def own_names(tree):
    """The names that a module binds by itself."""
    names = [node.name for node in tree.body if isinstance(node, FUNCTIONS + (ast.ClassDef,))]
    return names + [target.id for node in tree.body if isinstance(node, ast.Assign) for target in node.targets]


def is_function_table(value, above):
    """Whether a value is a dict of functions that are defined above it, by strings."""
    functions = {node.name for node in above if isinstance(node, FUNCTIONS)}
    return (isinstance(value, ast.Dict) and all(isinstance(key, ast.Constant) for key in value.keys)
            and all(isinstance(part, ast.Name) and part.id in functions for part in value.values))


CHANGING = set("append clear extend insert pop remove reverse setdefault update sort add discard".split())


def fresh_names(function):
    """The names to which a function assigns nothing but lists and dicts that it creates itself."""
    fresh, other = set(), set()
    for node in ast.walk(function):
        if isinstance(node, ast.Assign):
            own = isinstance(node.value, (ast.List, ast.Dict, ast.ListComp)) or (
                isinstance(node.value, ast.Call) and ast.unparse(node.value.func) in ("list", "dict", "sorted"))
            for target in node.targets:
                for part in target.elts if isinstance(target, ast.Tuple) else [target]:
                    (fresh if own else other).add(ast.unparse(part))
    return fresh - other


def is_simple(value):
    """Whether a value is one that a finally may assign (L6): here, an attribute."""
    return isinstance(value, ast.Attribute) and isinstance(value.value, ast.Name)


def imported_names(tree):
    return [alias.asname or alias.name for node in tree.body if isinstance(node, ast.ImportFrom) for alias in node.names]


class LanguageTest(unittest.TestCase):
    def each(self):
        for stem, nodes in NODES.items():
            with self.subTest(stem):
                yield stem, nodes

    def refuse(self, stem, node, why):
        self.fail(f"{stem}.py, line {getattr(node, 'lineno', 0)}: {why}")

    def test_files(self):
        """L1, L14"""
        self.assertTrue(len(FILES) <= 100)
        for path in PACKAGE.iterdir():
            if path.name != "__pycache__":
                self.assertTrue(re.fullmatch(r"__init__\.py|[a-z][a-z0-9_]*\.py", path.name), path.name)
                self.assertFalse(path.stem != "__init__" and hasattr(builtins, path.stem))

    def test_characters_and_sizes(self):
        """L10, L14"""
        for path in FILES:
            text = path.read_text()
            self.assertTrue(all(c == "\n" or " " <= c <= "~" for c in text), path.name)
            self.assertTrue(len(text.splitlines()) <= 399, path.name)
            self.assertTrue(all(len(line) <= 120 for line in text.splitlines()), path.name)
        for stem, nodes in self.each():
            for node in nodes:
                if isinstance(node, FUNCTIONS) and node.end_lineno - node.lineno >= 40:
                    self.refuse(stem, node, "L10")

    def test_imports(self):
        """L2, L16"""
        for stem, nodes in self.each():
            for node in nodes:
                if isinstance(node, ast.Import):
                    self.refuse(stem, node, "L2")
                if isinstance(node, ast.ImportFrom):
                    package, _, module = (node.module or "").partition(".")
                    self.assertEqual((package, node.level), ("orderless", 0), stem)
                    self.assertIn(node, TREES[stem].body)
                    for alias in node.names:
                        self.assertIn(alias.name, own_names(TREES[module]), stem)
            used = {node.id for node in nodes if isinstance(node, ast.Name)}
            self.assertEqual(set(imported_names(TREES[stem])) - used, set(), stem)

    def test_no_circle_of_imports(self):
        """L16"""
        needs = {stem: {node.module.partition(".")[2] for node in nodes if isinstance(node, ast.ImportFrom)}
                 for stem, nodes in NODES.items()}
        while needs:
            free = [stem for stem in needs if not needs[stem] & set(needs)]
            self.assertTrue(free, needs)
            for stem in free:
                del needs[stem]

    def test_module_level(self):
        """L3, L15"""
        for stem, _ in self.each():
            for k, node in enumerate(TREES[stem].body):
                if isinstance(node, ast.Expr):
                    self.assertTrue(k == 0 and isinstance(node.value, ast.Constant))
                elif isinstance(node, ast.Assign):
                    self.assertTrue(len(node.targets) == 1 and isinstance(node.targets[0], ast.Name))
                    if not is_function_table(node.value, TREES[stem].body[:k]):
                        ast.literal_eval(node.value)
                else:
                    self.assertIsInstance(node, (ast.ImportFrom, ast.FunctionDef, ast.ClassDef))
            names = own_names(TREES[stem]) + imported_names(TREES[stem])
            self.assertEqual(len(names), len(set(names)))

    def test_names(self):
        """L8, L12, L15, L17"""
        for stem, nodes in self.each():
            classes = {node.name for node in nodes if isinstance(node, ast.ClassDef)}
            taken = classes | set(imported_names(TREES[stem]))
            known = set(own_names(TREES[stem])) | taken
            bound = {node.id for node in nodes if isinstance(node, ast.Name) and isinstance(node.ctx, ast.Store)}
            bound |= {node.arg for node in nodes if isinstance(node, ast.arg)}
            known |= {node.name for node in nodes if isinstance(node, FUNCTIONS) and node.decorator_list}
            for name in bound:
                self.assertNotIn(name, taken)
                self.assertFalse(hasattr(builtins, name), name)
                self.assertFalse(name in NO_NAMES or name.startswith("__"), name)
            for node in nodes:
                if isinstance(node, ast.Name) and isinstance(node.ctx, ast.Load):
                    self.assertIn(node.id, known | bound | BUILTINS)
                    self.assertNotEqual(node.id, "_")
                for name in (getattr(node, "name", None), getattr(node, "attr", None), getattr(node, "id", None)):
                    self.assertFalse(name is not None and NO_OWN_NAMES.fullmatch(name), name)
                if isinstance(node, ast.Attribute):
                    self.assertNotIn(node.attr, NO_NAMES | {"args", "format", "format_map"})
                    self.assertTrue(node.attr == "__init__" or not node.attr.startswith("__"))

    def test_words(self):
        """L17, L27"""
        for path in FILES:
            words = re.findall(r"\w+", path.read_text())
            self.assertEqual(set(words) & NO_WORDS, set(), path.name)
        for stem, nodes in self.each():
            for node in nodes:
                if isinstance(node, ast.Constant) and isinstance(node.value, str):
                    self.assertNotIn("%", node.value)

    def test_syntax(self):
        """L4, L6, L7, L20, L21"""
        never = (ast.Global, ast.Lambda, ast.GeneratorExp, ast.AsyncFunctionDef, ast.Await, ast.Div, ast.MatMult, ast.Pow,
                 ast.AnnAssign, ast.With, ast.Match, ast.Set, ast.SetComp, ast.NamedExpr, ast.Nonlocal)
        for stem, nodes in self.each():
            for node in nodes:
                if isinstance(node, never):
                    self.refuse(stem, node, type(node).__name__)
                if isinstance(node, ast.Constant) and isinstance(node.value, (float, complex, bytes)):
                    self.refuse(stem, node, "L7")
                if isinstance(node, ast.Compare):
                    for op, right in zip(node.ops, node.comparators):
                        if isinstance(op, (ast.Is, ast.IsNot)) and not isinstance(right, ast.Constant):
                            self.refuse(stem, node, "L20")
                if isinstance(node, FUNCTIONS):
                    self.assertIsNone(node.returns)
                    for one in node.decorator_list:
                        self.assertIn(ast.unparse(one), ("classmethod", "property", f"{node.name}.setter"))
                if isinstance(node, ast.arg):
                    self.assertIsNone(node.annotation)

    def test_tries(self):
        """L6, L19: own errors only, and a finally that assigns attributes to attributes."""
        errors = {node.name for node in TREES["errors"].body if isinstance(node, ast.ClassDef)}
        for stem, nodes in self.each():
            for node in nodes:
                if isinstance(node, ast.Try):
                    for handler in node.handlers:
                        self.assertIn(ast.unparse(handler.type), errors)
                        self.assertIsNone(handler.name)
                    for part in node.finalbody:
                        self.assertTrue(isinstance(part, ast.Assign) and all(map(is_simple, part.targets + [part.value])))

    def test_classes(self):
        """L5, L18, L28"""
        for stem, nodes in self.each():
            for node in nodes:
                if not isinstance(node, ast.ClassDef):
                    continue
                self.assertEqual((node.decorator_list, node.keywords), ([], []))
                methods = [part for part in node.body if isinstance(part, ast.FunctionDef)]
                setters = [method for method in methods for one in method.decorator_list if isinstance(one, ast.Attribute)]
                for method in setters:
                    getter = methods[methods.index(method) - 1]
                    self.assertEqual((getter.name, ast.unparse(getter.decorator_list[0])), (method.name, "property"))
                names = [method.name for method in methods if method not in setters]
                self.assertEqual(len(names), len(set(names)))
                for part in node.body:
                    if isinstance(part, ast.Assign):
                        self.assertIsInstance(part.value, ast.Constant)
                        names = names + [part.targets[0].id]
                for name in names:
                    self.assertTrue(not name.startswith("__") or name[2:-2] in DUNDERS, name)
                    self.assertNotIn(name, METHODS)
                if "__getitem__" in names:
                    self.assertIn("__iter__", names)
                stored = {part.attr for part in ast.walk(node)
                          if isinstance(part, ast.Attribute) and isinstance(part.ctx, ast.Store)}
                self.assertEqual(stored & set(names), set())

    def test_calls(self):
        """L22, L25"""
        own = {node.name for nodes in NODES.values() for node in nodes if isinstance(node, FUNCTIONS)}
        for stem, nodes in self.each():
            for node in nodes:
                if not isinstance(node, ast.Call):
                    continue
                if isinstance(node.func, ast.Attribute):
                    self.assertIn(node.func.attr, METHODS | own)
                else:
                    self.assertIsInstance(node.func, ast.Name)
                for part in node.args:
                    if isinstance(part, ast.Starred):
                        self.assertIsInstance(part.value, ast.Name)

    def test_operators_change_nothing(self):
        """L5: what operators and properties, and the functions that they call, must not do, as far as names tell."""
        defined = {}
        for nodes in NODES.values():
            for node in nodes:
                if isinstance(node, FUNCTIONS):
                    defined.setdefault(node.name, []).append(node)
        free = ("__init__", "__call__", "__iter__", "__enter__", "__exit__", "__setitem__")
        pending = [name for name in defined if name.startswith("__") and name not in free]
        getters = [function for functions in defined.values() for function in functions
                   if [ast.unparse(one) for one in function.decorator_list] == ["property"]]
        pending += [node.func.attr if isinstance(node.func, ast.Attribute) else node.func.id
                    for function in getters for node in ast.walk(function) if isinstance(node, ast.Call)]
        seen = set()
        while pending:
            name = pending.pop()
            if name in seen or name not in defined:
                continue
            seen.add(name)
            for function in defined[name]:
                made = fresh_names(function)
                for node in ast.walk(function):
                    if isinstance(node, ast.Attribute):
                        self.assertIsInstance(node.ctx, ast.Load, name)
                        if node.attr in CHANGING:
                            self.assertIn(ast.unparse(node.value), made, name)
                    if isinstance(node, ast.Subscript) and not isinstance(node.ctx, ast.Load):
                        self.assertIn(ast.unparse(node.value), made, name)
                    if isinstance(node, ast.AugAssign):
                        self.assertTrue(isinstance(node.target, ast.Name) and isinstance(node.value, ast.Constant), name)
                    if isinstance(node, ast.Call):
                        pending.append(node.func.attr if isinstance(node.func, ast.Attribute) else node.func.id)
        self.assertTrue({"expression_text", "form_of", "rule_text", "form", "known_of", "is_settled", "step_line"} <= seen)

    def test_generators(self):
        """L23"""
        makers = {}
        for stem, nodes in NODES.items():
            for node in nodes:
                if isinstance(node, FUNCTIONS) and any(isinstance(part, (ast.Yield, ast.YieldFrom)) for part in ast.walk(node)):
                    self.assertNotIn(node.name, makers)
                    makers[node.name] = stem
        for stem, nodes in self.each():
            names = [node.name for node in nodes if isinstance(node, FUNCTIONS)]
            for name in makers:
                self.assertLessEqual(names.count(name), 1)
            allowed = [node.iter for node in nodes if isinstance(node, (ast.For, ast.comprehension))]
            allowed += [node.args[0] for node in nodes if isinstance(node, ast.Call) and node.args
                        and ast.unparse(node.func) in ("list", "tuple", "dict")]
            for node in nodes:
                if isinstance(node, ast.Call) and isinstance(node.func, ast.Name) and node.func.id in makers:
                    self.assertIn(node, allowed)
