"""The rules of LANGUAGE.md that can be read off the text of the package."""

import ast
import builtins
import pathlib
import re
import unittest

ROOT = pathlib.Path(__file__).resolve().parent.parent
FOLDER = ROOT / "guardsums"
LIBRARY = {
    "heapq": {"heappush", "heappop", "heapify", "heapreplace", "heappushpop"},
    "math": {"gcd", "lcm", "isqrt", "comb", "perm", "factorial"},
    "itertools": {"product", "combinations", "permutations", "chain", "accumulate", "pairwise", "islice",
                  "zip_longest"},
    "collections": {"defaultdict"},
}
BUILTINS = set(
    "len range enumerate zip min max sum abs sorted reversed int str bool list tuple dict set isinstance ord repr "
    "any all divmod pow getattr hasattr setattr iter next map property staticmethod classmethod super object "
    "Exception ValueError TypeError KeyError IndexError LookupError ZeroDivisionError ArithmeticError OverflowError "
    "RuntimeError NotImplementedError AttributeError StopIteration NotImplemented".split())
DOUBLE = set(
    "__init__ __eq__ __repr__ __str__ __len__ __enter__ __exit__ __call__ __iter__ __lt__ __le__ __gt__ __ge__ "
    "__ne__ __add__ __sub__ __mul__ __floordiv__ __mod__ __pow__ __and__ __or__ __xor__ __lshift__ __rshift__ "
    "__radd__ __rsub__ __rmul__ __rfloordiv__ __rmod__ __rand__ __ror__ __rxor__ __rlshift__ __rrshift__ "
    "__iadd__ __isub__ __imul__ __ifloordiv__ __imod__ __ipow__ __iand__ __ior__ __ixor__ __ilshift__ __irshift__ "
    "__neg__ __pos__ __invert__ __abs__ __bool__ __contains__ __getitem__ __setitem__".split())
BARRED_WORDS = re.compile(
    r"\b(register|mro|elements|open|input|law|version_info|with_traceback|add_note|typing|typing_extensions|enum|"
    r"Enum|Generic|Protocol|ABC|namedtuple|NamedTuple|TypedDict|type)\b|dataclass|overload|contextmanager|_wall")
BARRED_NODES = (ast.Global, ast.AsyncFunctionDef, ast.AsyncFor, ast.AsyncWith, ast.Await, ast.Import, ast.Div)


def without_docstrings(tree):
    """The tree with its docstrings taken out, as the rules on words do not hold for them."""
    for node in ast.walk(tree):
        if isinstance(node, (ast.Module, ast.ClassDef, ast.FunctionDef)) and ast.get_docstring(node) is not None:
            node.body = node.body[1:] or [ast.Pass()]
    return tree


def bound_names(tree):
    """The names that the module binds in any way but by an import, attributes left out."""
    names = []
    for node in ast.walk(tree):
        if isinstance(node, ast.Name) and isinstance(node.ctx, (ast.Store, ast.Del)):
            names.append(node.id)
        elif isinstance(node, ast.arg):
            names.append(node.arg)
        elif isinstance(node, (ast.FunctionDef, ast.ClassDef)) and node.name not in DOUBLE:
            names.append(node.name)
    return names


class Language(unittest.TestCase):
    def files(self):
        paths = sorted(path for path in FOLDER.rglob("*") if path.is_file() and "__pycache__" not in path.parts)
        self.assertIn(FOLDER / "__init__.py", paths)
        return paths

    def trees(self):
        for path in self.files():
            yield path.name, ast.parse(path.read_text())

    def test_folder(self):
        for path in self.files():
            self.assertRegex(path.name, r"^([a-z][a-z0-9_]*|__init__|__main__)\.py$")
            self.assertNotIn(path.stem, vars(builtins))

    def test_lines(self):
        for path in self.files():
            lines = path.read_text().split("\n")
            self.assertLessEqual(len(lines), 399, path.name)
            for line in lines:
                self.assertLessEqual(len(line), 120, path.name)
                self.assertRegex(line, r"^[ -~]*$", path.name)

    def test_functions_have_forty_lines_at_most(self):
        for name, tree in self.trees():
            for node in ast.walk(tree):
                if isinstance(node, ast.FunctionDef):
                    self.assertLessEqual(node.end_lineno - node.lineno + 1, 40, (name, node.name))

    def test_imports(self):
        for name, tree in self.trees():
            for node in ast.walk(tree):
                if isinstance(node, ast.ImportFrom):
                    self.assertIn(node, tree.body, name)
                    self.assertEqual(node.level, 0, name)
                    words = {alias.name for alias in node.names}
                    self.assertFalse([alias for alias in node.names if alias.asname], name)
                    if not node.module.startswith("guardsums."):
                        self.assertLessEqual(words, LIBRARY[node.module], name)
                    else:
                        self.check_defined(node.module, words)

    def check_defined(self, module, words):
        body = ast.parse((ROOT / (module.replace(".", "/") + ".py")).read_text()).body
        defined = [node.name for node in body if isinstance(node, (ast.FunctionDef, ast.ClassDef))]
        defined += [target.id for node in body if isinstance(node, ast.Assign) for target in node.targets]
        self.assertLessEqual(words, set(defined), module)

    def test_module_level(self):
        allowed = (ast.ImportFrom, ast.FunctionDef, ast.ClassDef, ast.Assign)
        for name, tree in self.trees():
            for node in without_docstrings(tree).body:
                self.assertIsInstance(node, (*allowed, ast.Pass), name)

    def test_statements_and_expressions(self):
        for name, tree in self.trees():
            for node in ast.walk(tree):
                self.assertNotIsInstance(node, BARRED_NODES, name)
                if isinstance(node, ast.Constant):
                    self.assertNotIsInstance(node.value, (float, complex), name)
                    if isinstance(node.value, str):
                        self.assertNotIn("%", node.value, name)

    def test_builtins(self):
        for name, tree in self.trees():
            bound = bound_names(tree)
            # A doctest that ran ahead leaves _ among the builtins.
            taken = set(dir(builtins)) - {"_"}
            self.assertFalse(set(bound) & taken, name)
            for node in ast.walk(tree):
                if isinstance(node, ast.Name) and node.id in taken:
                    self.assertIn(node.id, BUILTINS, name)

    def test_names(self):
        for name, tree in self.trees():
            for bound in bound_names(tree):
                self.assertRegex(bound, r"^(_|_?[A-Za-z][A-Za-z0-9_]*)$", name)
            for node in ast.walk(tree):
                if isinstance(node, ast.ClassDef):
                    for method in node.body:
                        if isinstance(method, ast.FunctionDef) and method.name.startswith("__"):
                            self.assertIn(method.name, DOUBLE, name)

    def test_no_name_of_a_class_or_an_import_is_bound_again(self):
        for name, tree in self.trees():
            taken = [alias.name for node in ast.walk(tree) if isinstance(node, ast.ImportFrom) for alias in node.names]
            taken += [node.name for node in tree.body if isinstance(node, ast.ClassDef)]
            bound = [bound for bound in bound_names(tree) if bound in taken]
            classes = [node.name for node in tree.body if isinstance(node, ast.ClassDef)]
            self.assertEqual(sorted(bound), sorted(classes), name)
            used = {node.id for node in ast.walk(tree) if isinstance(node, ast.Name)}
            self.assertLessEqual(set(taken) - set(classes), used, name)

    def test_exponents_and_generator_expressions(self):
        for name, tree in self.trees():
            for node in ast.walk(tree):
                # Objects of the package compare: what goes to any, sum and the like is a list.
                self.assertNotIsInstance(node, (ast.GeneratorExp, ast.Yield, ast.YieldFrom), name)
                if isinstance(node, ast.BinOp) and isinstance(node.op, ast.Pow):
                    self.assertIsInstance(node.right, ast.Constant, name)
                    self.assertIn(node.right.value, range(65), name)

    def test_views_are_iterated_on_the_spot(self):
        for name, tree in self.trees():
            spots = set()
            for node in ast.walk(tree):
                if isinstance(node, (ast.For, ast.comprehension)):
                    spots.add(node.iter)
                elif isinstance(node, ast.Call) and isinstance(node.func, ast.Name) and node.args:
                    if node.func.id in ("list", "tuple", "dict", "sorted", "sum", "enumerate", "zip", "reversed"):
                        spots.add(node.args[0])
            for node in ast.walk(tree):
                if isinstance(node, ast.Call) and isinstance(node.func, ast.Name):
                    if node.func.id in ("range", "zip", "enumerate", "reversed"):
                        self.assertIn(node, spots, (name, node.lineno))

    def test_stars(self):
        for name, tree in self.trees():
            for node in ast.walk(tree):
                if isinstance(node, ast.Call):
                    for argument in node.args:
                        if isinstance(argument, ast.Starred):
                            self.assertIsInstance(argument.value, (ast.Name, ast.Attribute), (name, node.lineno))

    def test_methods_and_attributes(self):
        assigned, read, attributes = set(), {}, set()
        for name, tree in self.trees():
            for found in [node for node in tree.body if isinstance(node, ast.ClassDef)]:
                methods = {node.name for node in found.body if isinstance(node, ast.FunctionDef)}
                own = {node.attr for node in ast.walk(found) if isinstance(node, ast.Attribute)
                       and isinstance(node.ctx, ast.Store)}
                self.assertFalse(methods & own, (name, found.name))
                assigned |= methods | own
                attributes |= own
            for node in ast.walk(tree):
                if isinstance(node, ast.Attribute) and isinstance(node.ctx, ast.Load):
                    read[node.attr] = name
        # A method or an attribute may not have these names at all, or an attribute may not.
        self.assertFalse(attributes & set("items keys values pop update append clear extend insert remove reverse "
                                          "setdefault sort args encode decode hex fromhex format".split()))
        builtin = {word for value in ("", 0, [], {}, ()) for word in dir(value)} | {"__init__"}
        self.assertFalse({word: read[word] for word in read if word not in assigned | builtin})

    def test_no_ring_of_imports(self):
        below = {}
        for name, tree in self.trees():
            below[name[:-3]] = {node.module.partition(".")[2] for node in tree.body if isinstance(node, ast.ImportFrom)
                                and node.module.startswith("guardsums.")}
        while below:
            free = [name for name in below if not below[name] & set(below)]
            self.assertTrue(free, below)
            for name in free:
                del below[name]

    def test_words(self):
        for name, tree in self.trees():
            self.assertNotRegex(ast.unparse(without_docstrings(tree)), BARRED_WORDS, name)


if __name__ == "__main__":
    unittest.main()
