"""Following the source of a package: what its functions and methods run, directly or through others.

It is followed by names, and rather too far than not far enough: a function that is named counts as run, and so does
each method that has the name of an attribute, whatever the object is. A function is told by its place: (module, class
or "", name); a setter has its own place.
"""

import ast
import builtins

SETTER = " setter"

# What runs where no name of it stands: in "for", "+", "in", "[]", "==", len(..), str(..) and the like.
NOT_BY_SIGNS = ("__init__", "__call__", "__enter__", "__exit__")


def has_yield(function):
    return any(isinstance(node, (ast.Yield, ast.YieldFrom)) for node in ast.walk(function))


def written(place):
    return ".".join(part for part in place if part)


def _is_setter(function):
    return any(isinstance(one, ast.Attribute) and one.attr == "setter" for one in function.decorator_list)


def _is_getter(function):
    return any(isinstance(one, ast.Name) and one.id == "property" for one in function.decorator_list)


def _is_super(value):
    return isinstance(value, ast.Call) and ast.unparse(value.func) == "super"


class Source:
    """The functions of a package, by their places; texts are the texts of its modules, by their names."""

    def __init__(self, texts):
        self.functions = {}
        self.bound = {stem: {} for stem in texts}
        for stem, text in texts.items():
            for node in ast.parse(text).body:
                self._take(stem, node)
        self.methods = {}
        for place in self.functions:
            if place[1]:
                self.methods.setdefault(place[2], []).append(place)

    def _take(self, stem, node):
        if isinstance(node, ast.ImportFrom):
            module = node.module.rpartition(".")[2]
            if module in self.bound:
                self.bound[stem].update({alias.asname or alias.name: (module, alias.name) for alias in node.names})
        elif isinstance(node, ast.FunctionDef):
            self.bound[stem][node.name] = node
            self.functions[(stem, "", node.name)] = node
        elif isinstance(node, ast.ClassDef):
            self.bound[stem][node.name] = node
            for part in node.body:
                if isinstance(part, ast.FunctionDef):
                    self.functions[(stem, node.name, part.name + (SETTER if _is_setter(part) else ""))] = part
        elif isinstance(node, ast.Assign):
            self.bound[stem].update({target.id: node.value for target in node.targets})

    def getters(self):
        """The places of all properties that are read."""
        return [place for place, function in self.functions.items() if _is_getter(function)]

    def run_by_signs(self):
        """The places of __eq__, __repr__, __str__, __len__ and of what else runs without its name."""
        names = [name for name in self.methods if name.startswith("__") and name not in NOT_BY_SIGNS]
        return [place for name in names for place in self.methods[name]]

    def reached_from(self, roots):
        """A dict of the places of all that runs from the roots on, each with the place that it was found through."""
        found = {root: None for root in roots}
        pending = list(roots)
        while pending:
            place = pending.pop()
            for other in self._used_by(place):
                if other not in found:
                    found[other] = place
                    pending.append(other)
        return found

    def ways_to_yield(self, roots):
        """For each function with yield that is reached from the roots: the places on a way to it, written."""
        found = self.reached_from(roots)
        ways = []
        for place in found:
            if has_yield(self.functions[place]):
                way = [place]
                while found[way[0]] is not None:
                    way.insert(0, found[way[0]])
                ways.append(" > ".join(map(written, way)))
        return sorted(ways)

    def calls_of_held(self, place):
        """The calls in a function of what is not plainly a function, class or method: of what it is passed or holds."""
        function = self.functions[place]
        inner = {node.id for node in ast.walk(function) if isinstance(node, ast.Name) and isinstance(node.ctx, ast.Store)}
        inner |= {node.arg for node in ast.walk(function) if isinstance(node, ast.arg)}
        called = [node.func for node in ast.walk(function) if isinstance(node, ast.Call)]
        called += [node.value for node in ast.walk(function) if isinstance(node, ast.keyword) and node.arg == "key"]
        return [ast.unparse(node) for node in called if not self._is_plain(place[0], node, inner)]

    def _is_plain(self, stem, node, inner):
        if isinstance(node, ast.Attribute):
            kinds = (str, list, tuple, dict, int)
            return node.attr in self.methods or any(hasattr(kind, node.attr) for kind in kinds)
        if not isinstance(node, ast.Name) or node.id in inner or node.id in ("iter", "next", "map"):
            return False
        _, bound = self._bound_to(stem, node.id)
        return isinstance(bound, (ast.FunctionDef, ast.ClassDef)) or (bound is None and hasattr(builtins, node.id))

    def _bound_to(self, stem, name):
        """The module in which a name of a module is bound, and to what; None if it is not a name of a module."""
        bound = self.bound[stem].get(name)
        while isinstance(bound, tuple):
            stem, name = bound
            bound = self.bound[stem].get(name)
        return stem, bound

    def _used_by(self, place):
        stem, owner, _ = place
        for node in ast.walk(self.functions[place]):
            if isinstance(node, ast.Name):
                yield from self._behind_name(stem, node.id)
            if isinstance(node, ast.Attribute):
                yield from self._behind_attribute(stem, owner, node)

    def _behind_name(self, stem, name):
        home, bound = self._bound_to(stem, name)
        if isinstance(bound, ast.FunctionDef):
            yield (home, "", bound.name)
        elif isinstance(bound, ast.ClassDef):
            family = self._family(home, bound.name)
            yield from [place for place in self.methods.get("__init__", []) if place[:2] in family]
        elif bound is not None:
            # A value at module level: a table of functions names them.
            for node in ast.walk(bound):
                if isinstance(node, ast.Name):
                    yield from self._behind_name(home, node.id)

    def _behind_attribute(self, stem, owner, node):
        places = self.methods.get(node.attr, [])
        if not isinstance(node.ctx, ast.Load):
            places = places + self.methods.get(node.attr + SETTER, [])
        if _is_super(node.value) or node.attr == "__init__":
            family = self._family(stem, owner)
            places = [place for place in places if place[:2] in family]
        yield from places

    def _family(self, stem, name):
        """The places (module, class) of all classes that are tied to a class by base classes, and the class itself."""
        ties = []
        for home, names in self.bound.items():
            for node in names.values():
                if isinstance(node, ast.ClassDef):
                    bases = [self._bound_to(home, base.id) for base in node.bases if isinstance(base, ast.Name)]
                    ties += [((home, node.name), (where, base.name)) for where, base in bases if base is not None]
        family = {(stem, name)}
        for _ in ties:
            for tie in ties:
                if family & set(tie):
                    family |= set(tie)
        return family
