"""That the package keeps to the rules of the language that can be seen in its text."""

import ast
import builtins
import os
import re
import unittest

FOLDER = os.path.join(os.path.dirname(os.path.dirname(os.path.abspath(__file__))), "nevermet")
LIBRARY = {"heapq": {"heappush", "heappop", "heapify", "heapreplace", "heappushpop"},
           "math": {"gcd", "lcm", "isqrt", "comb", "perm", "factorial"},
           "itertools": {"product", "combinations", "permutations"}}
BUILTINS = set("""len range enumerate zip min max sum abs sorted reversed int str bool list tuple dict set isinstance
    ord repr any all divmod iter next map property classmethod staticmethod super NotImplemented Exception ValueError
    TypeError KeyError IndexError LookupError ZeroDivisionError ArithmeticError OverflowError RuntimeError
    NotImplementedError AttributeError StopIteration""".split())
BUILTIN_METHODS = set("""append clear copy count endswith extend find get index insert isalnum isalpha isdigit islower
    isspace isupper items join keys ljust lower lstrip partition pop remove replace reverse rfind rjust rpartition rsplit
    rstrip setdefault split splitlines startswith strip update upper values zfill bit_length add discard""".split())
SPECIAL = set("""__init__ __eq__ __repr__ __str__ __len__ __call__ __iter__ __and__ __contains__ __getitem__""".split())
BARRED = re.compile(r"\b(type|typing|typing_extensions|enum|Enum|IntEnum|StrEnum|Flag|IntFlag|Generic|Protocol|ABC|"
                    r"ABCMeta|namedtuple|NamedTuple|TypedDict|TYPE_CHECKING|abstractmethod)\b"
                    r"|dataclass|overload|contextmanager|Meta|metaclass")
UNUSED = set("""register mro elements open input law version_info with_traceback add_note attrgetter breakpoint compile
    copyright credits delattr dir eval exec exit gc getattr globals hasattr help id importlib license locals os quit
    setattr type vars sys""".split())
RESERVED = re.compile(r"^_(cold|tuplegetter|outside|record|written_out|member_names)[0-9_]*$"
                      r"|^_(wall|pe_|dcw_|enum_|cm_|twin_re_|lay_|law_|stub_|sre|WallAttr)")
CHANGING = set("append clear extend insert pop remove reverse setdefault update sort add discard".split())
NODES = (ast.Global, ast.AsyncFunctionDef, ast.Await, ast.AsyncFor, ast.AsyncWith, ast.Div, ast.MatMult, ast.Lambda,
         ast.GeneratorExp, ast.Import, ast.NamedExpr, ast.Match)
"""What the language bars, and what it allows but this package does without."""


def files():
    for name in sorted(os.listdir(FOLDER)):
        if name != "__pycache__":
            with open(os.path.join(FOLDER, name), encoding="utf-8") as text:
                yield name, text.read()


def trees():
    return [(name, ast.parse(text)) for name, text in files()]


def defined(tree):
    """The names that a file binds at module level, imports left out."""
    found = []
    for node in tree.body:
        if isinstance(node, (ast.FunctionDef, ast.ClassDef)):
            found.append(node.name)
        elif isinstance(node, ast.Assign):
            found += [target.id for target in node.targets]
    return found


def imported(tree):
    return [alias.name for node in tree.body if isinstance(node, ast.ImportFrom) for alias in node.names]


def bound(tree):
    """The names of all parameters, local variables and nested functions."""
    for function in ast.walk(tree):
        if isinstance(function, ast.FunctionDef):
            yield from (node.arg for node in ast.walk(function.args) if isinstance(node, ast.arg))
            yield from (node.id for node in ast.walk(function)
                        if isinstance(node, ast.Name) and isinstance(node.ctx, ast.Store))
            yield from (node.name for node in ast.walk(function)
                        if isinstance(node, ast.FunctionDef) and node is not function)


def names_of_comprehension(node):
    """The variables of a comprehension."""
    return {one.id for part in node.generators for one in ast.walk(part.target) if isinstance(one, ast.Name)} - {"_"}


def own_names(tree):
    """All names in a file: of variables, attributes, functions, classes and parameters."""
    for node in ast.walk(tree):
        if isinstance(node, ast.Name):
            yield node.id
        elif isinstance(node, ast.Attribute):
            yield node.attr
        elif isinstance(node, (ast.FunctionDef, ast.ClassDef)):
            yield node.name
        elif isinstance(node, ast.arg):
            yield node.arg


def gone_over(node):
    """The texts of what a loop goes over, also through enumerate, zip and the views of a dict; copies do not count."""
    if isinstance(node, ast.Call) and ast.unparse(node.func) in ("enumerate", "zip"):
        return [text for one in node.args for text in gone_over(one)]
    if isinstance(node, ast.Call) and isinstance(node.func, ast.Attribute) and node.func.attr in ("items", "keys", "values"):
        return gone_over(node.func.value)
    if isinstance(node, ast.IfExp):
        return gone_over(node.body) + gone_over(node.orelse)
    if isinstance(node, (ast.Attribute, ast.Subscript)):
        return [ast.unparse(node)] + (gone_over(node.value) if ast.unparse(node.value) != "self" else [])
    return [node.id] if isinstance(node, ast.Name) else []


def changed_in(rows):
    """The texts of what some statements change."""
    for node in [node for row in rows for node in ast.walk(row)]:
        if isinstance(node, ast.Call) and isinstance(node.func, ast.Attribute) and node.func.attr in CHANGING:
            yield ast.unparse(node.func.value)
        targets = node.targets if isinstance(node, (ast.Assign, ast.Delete)) else []
        targets = [node.target] if isinstance(node, ast.AugAssign) else targets
        for target in [one for target in targets for one in ast.walk(target)]:
            if isinstance(target, ast.Subscript):
                yield ast.unparse(target.value)
            elif isinstance(target, ast.Attribute) and isinstance(target.ctx, ast.Store):
                yield ast.unparse(target)


class Text(unittest.TestCase):
    def test_files(self):
        names = [name for name, _ in files()]
        self.assertLessEqual(len(names), 100)
        for name in names:
            self.assertRegex(name, r"^[a-z_]+\.py$")
            self.assertNotIn(name[:-3], UNUSED | set(dir(builtins)))

    def test_signs_and_lengths(self):
        for name, text in files():
            lines = text.split("\n")
            self.assertLessEqual(len(lines), 400, name)
            for at, line in enumerate(lines):
                self.assertLessEqual(len(line), 120, (name, at + 1))
                self.assertRegex(line, r"^[ -~]*$", (name, at + 1))
                self.assertNotRegex(line, BARRED, (name, at + 1))

    def test_functions_are_short(self):
        for name, tree in trees():
            for node in ast.walk(tree):
                if isinstance(node, ast.FunctionDef):
                    self.assertLessEqual(node.end_lineno - node.lineno + 1, 40, (name, node.name))

    def test_strings(self):
        for name, tree in trees():
            for node in ast.walk(tree):
                if isinstance(node, ast.Constant) and isinstance(node.value, str):
                    self.assertNotIn("%", node.value, name)
                self.assertFalse(isinstance(node, ast.Constant) and isinstance(node.value, (float, complex)), name)


class Names(unittest.TestCase):
    def test_imports(self):
        known = {f"nevermet.{name[:-3]}": defined(tree) for name, tree in trees()}
        for name, tree in trees():
            for node in ast.walk(tree):
                if isinstance(node, ast.ImportFrom):
                    self.assertIn(node, tree.body, name)
                    self.assertEqual(node.level, 0, name)
                    for alias in node.names:
                        self.assertIsNone(alias.asname, name)
                        self.assertIn(alias.name, LIBRARY.get(node.module) or known[node.module], (name, node.module))

    def test_no_imports_go_round(self):
        needs = {name[:-3]: [node.module.split(".")[-1] for node in tree.body
                             if isinstance(node, ast.ImportFrom) and node.module not in LIBRARY] for name, tree in trees()}
        done = set()
        while len(done) < len(needs):
            ready = [name for name in needs if name not in done and set(needs[name]) <= done]
            self.assertTrue(ready, sorted(set(needs) - done))
            done |= set(ready)

    def test_imported_names_are_used(self):
        for name, tree in trees():
            used = {node.id for node in ast.walk(tree) if isinstance(node, ast.Name)}
            self.assertEqual(sorted(set(imported(tree)) - used), [], name)

    def test_one_binding(self):
        for name, tree in trees():
            names = defined(tree) + imported(tree)
            self.assertEqual(len(set(names)), len(names), name)
            classes = {node.name for node in tree.body if isinstance(node, ast.ClassDef)}
            taken = classes | set(imported(tree)) | set(dir(builtins)) | UNUSED
            self.assertEqual(sorted(set(bound(tree)) & taken), [], name)
            self.assertEqual(sorted(set(defined(tree)) & (set(dir(builtins)) | UNUSED)), [], name)

    def test_reserved_names(self):
        for name, tree in trees():
            self.assertEqual([one for one in own_names(tree) if RESERVED.match(one) or one in ("_wall", "_WallAttr")], [], name)

    def test_names_in_comprehensions(self):
        """A comprehension inside another one has names of its own."""
        kinds = (ast.ListComp, ast.SetComp, ast.DictComp)
        for name, tree in trees():
            for outer in [node for node in ast.walk(tree) if isinstance(node, kinds)]:
                taken = names_of_comprehension(outer)
                for inner in [node for node in ast.walk(outer) if isinstance(node, kinds) and node is not outer]:
                    self.assertEqual(sorted(taken & names_of_comprehension(inner)), [], (name, inner.lineno))

    def test_builtins(self):
        for name, tree in trees():
            own = set(defined(tree)) | set(imported(tree)) | set(bound(tree))
            own |= {one.id for kind in tree.body if isinstance(kind, ast.ClassDef) for node in kind.body
                    if isinstance(node, ast.Assign) for one in node.targets}
            for node in ast.walk(tree):
                if isinstance(node, ast.Name) and node.id not in own:
                    self.assertIn(node.id, BUILTINS, (name, node.lineno))

    def test_methods(self):
        own = {node.name for _, tree in trees() for kind in tree.body if isinstance(kind, ast.ClassDef)
               for node in kind.body if isinstance(node, ast.FunctionDef)}
        for name, tree in trees():
            for node in ast.walk(tree):
                if isinstance(node, ast.Call) and isinstance(node.func, ast.Attribute):
                    self.assertIn(node.func.attr, own | BUILTIN_METHODS, (name, node.lineno))
                    self.assertNotEqual(node.func.attr, "sort")


class Statements(unittest.TestCase):
    def test_module_level(self):
        for name, tree in trees():
            for at, node in enumerate(tree.body):
                if isinstance(node, ast.Expr):
                    self.assertTrue(at == 0 and isinstance(node.value, ast.Constant), name)
                else:
                    self.assertIsInstance(node, (ast.ImportFrom, ast.FunctionDef, ast.ClassDef, ast.Assign), name)

    def test_nodes(self):
        for name, tree in trees():
            for node in ast.walk(tree):
                self.assertNotIsInstance(node, NODES, (name, getattr(node, "lineno", None)))
                if isinstance(node, ast.Compare) and any(isinstance(sign, (ast.Is, ast.IsNot)) for sign in node.ops):
                    self.assertTrue(all(isinstance(one, ast.Constant) for one in node.comparators), (name, node.lineno))
                if isinstance(node, ast.ExceptHandler):
                    self.assertIsInstance(node.type, ast.Name, name)
                    self.assertNotIn(node.type.id, set(dir(builtins)) - {"KeyError", "ZeroDivisionError"}, name)

    def test_decorators_and_special_methods(self):
        for name, tree in trees():
            for node in ast.walk(tree):
                if isinstance(node, (ast.FunctionDef, ast.ClassDef)):
                    for one in node.decorator_list:
                        self.assertIn(ast.unparse(one), ("property", "classmethod", "staticmethod"), name)
                    if node.name.startswith("__"):
                        self.assertIn(node.name, SPECIAL, name)

    def test_what_is_iterated_at_once(self):
        """No zip, enumerate or range is kept or joined to a list straight, and reversed is not used."""
        for name, tree in trees():
            for node in ast.walk(tree):
                if isinstance(node, ast.Call) and isinstance(node.func, ast.Name):
                    self.assertNotEqual(node.func.id, "reversed", name)
                if isinstance(node, ast.Assign) and isinstance(node.value, ast.Call):
                    self.assertNotIn(ast.unparse(node.value.func), ("zip", "enumerate", "range", "map"), name)
                if isinstance(node, ast.Call) and isinstance(node.func, ast.Attribute) and node.func.attr == "extend":
                    self.assertNotRegex(ast.unparse(node.args[0]), r"^(zip|enumerate|range|map)\(", name)

    def test_what_a_loop_goes_over_is_not_changed(self):
        for name, tree in trees():
            for node in [node for node in ast.walk(tree) if isinstance(node, ast.For)]:
                self.assertEqual(sorted(set(gone_over(node.iter)) & set(changed_in(node.body))), [], (name, node.lineno))

    def test_generators(self):
        """No other function has the name of a generator, which is gone through at once."""
        functions = [node for _, tree in trees() for node in ast.walk(tree) if isinstance(node, ast.FunctionDef)]
        names = {node.name for node in functions if any(isinstance(one, (ast.Yield, ast.YieldFrom)) for one in ast.walk(node))}
        self.assertEqual([name for name in sorted(names) if sum(node.name == name for node in functions) > 1], [])
        for name, tree in trees():
            for node in ast.walk(tree):
                for child in ast.iter_child_nodes(node):
                    if isinstance(child, ast.Call) and ast.unparse(child.func).split(".")[-1] in names:
                        at_once = isinstance(node, (ast.For, ast.comprehension, ast.YieldFrom))
                        self.assertTrue(at_once or isinstance(node, ast.Call) and ast.unparse(node.func) == "list", (name, child.lineno))

    def test_sets(self):
        """Sets are only sorted, counted and compared on the spot."""
        for name, tree in trees():
            for node in ast.walk(tree):
                for child in ast.iter_child_nodes(node):
                    made = isinstance(child, ast.Call) and ast.unparse(child.func) == "set"
                    if made or isinstance(child, (ast.Set, ast.SetComp)):
                        self.assertTrue(isinstance(node, ast.Call) and ast.unparse(node.func) in ("sorted", "len"),
                                        (name, child.lineno))

    def test_classes_keep_their_names_apart(self):
        methods, properties, attributes = set(), set(), set()
        for _, tree in trees():
            for kind in [node for node in tree.body if isinstance(node, ast.ClassDef)]:
                own = set()
                for node in [node for node in kind.body if isinstance(node, ast.FunctionDef)]:
                    shown = [ast.unparse(one) for one in node.decorator_list]
                    self.assertNotIn(node.name, own, kind.name)
                    own.add(node.name)
                    (properties if "property" in shown else methods).add(node.name)
                for node in ast.walk(kind):
                    if isinstance(node, ast.Attribute) and isinstance(node.ctx, ast.Store):
                        self.assertNotIn(node.attr, own, kind.name)
                        attributes.add(node.attr)
        self.assertEqual(sorted(properties & (methods | BUILTIN_METHODS)), [])
        self.assertEqual(sorted(attributes & methods), [])

    def test_no_attribute_that_is_assigned_has_the_name_of_a_property(self):
        """An operator may make any object, an error too, whatever the class that has the property."""
        properties, stored = set(), set()
        for _, tree in trees():
            for node in ast.walk(tree):
                if isinstance(node, ast.Attribute) and isinstance(node.ctx, (ast.Store, ast.Del)):
                    stored.add(node.attr)
                if isinstance(node, ast.FunctionDef) and [ast.unparse(one) for one in node.decorator_list] == ["property"]:
                    properties.add(node.name)
        self.assertEqual(sorted(stored & properties), [])

    def test_stars_in_calls(self):
        """Behind a star in a call stands a name, an attribute off a name, or a literal."""
        for name, tree in trees():
            for node in [node for node in ast.walk(tree) if isinstance(node, ast.Call)]:
                behind = [one.value for one in node.args if isinstance(one, ast.Starred)]
                behind += [one.value for one in node.keywords if one.arg is None]
                for value in behind:
                    self.assertRegex(ast.unparse(value), r"^[a-z_]+(\.[a-z_]+)?$", (name, node.lineno))
                self.assertTrue(all(one.arg is None for one in node.keywords) or None not in
                                [one.arg for one in node.keywords], (name, node.lineno))


if __name__ == "__main__":
    unittest.main()
