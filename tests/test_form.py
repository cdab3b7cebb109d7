"""The form of the package's files: sizes, characters, names, imports, what stands in the folder."""

import ast
import builtins
import os
import unittest

TOP = os.path.dirname(os.path.dirname(os.path.abspath(__file__)))
FOLDER = os.path.join(TOP, "roundcopies")
LIBRARY = {"heapq": ("heappush", "heappop", "heapify"), "math": ("gcd", "lcm", "isqrt", "comb"),
           "itertools": ("product", "combinations", "permutations"), "collections": ("deque",)}
CALLED = ("len range enumerate zip min max sum abs sorted reversed int str bool list tuple dict set isinstance ord repr "
          "any all divmod ValueError").split()
METHODS = ("append clear copy count endswith extend find get index insert isalnum isalpha isdigit islower isspace "
           "isupper items join keys ljust lower lstrip partition pop remove replace reverse rfind rjust rpartition "
           "rsplit rstrip setdefault split splitlines startswith strip update upper values zfill bit_length").split()
BARRED = ("register mro elements open input law version_info type typing enum Enum Flag Generic Protocol ABC "
          "namedtuple dir eval exec exit gc getattr hasattr help id locals os quit setattr super vars sys").split()
# What a caller hands in, to be called.
HANDED_IN = ("dealer",)
BARRED_NODES = (ast.GeneratorExp, ast.Yield, ast.YieldFrom, ast.TryStar, ast.With, ast.Global, ast.Nonlocal, ast.Div,
                ast.NamedExpr, ast.AsyncFunctionDef, ast.Await, ast.AnnAssign, ast.Invert)


def file_names():
    """The names of what stands in the package's folder, but for what Python itself keeps there."""
    return sorted([name for name in os.listdir(FOLDER) if name != "__pycache__"])


def text_of(name):
    with open(os.path.join(FOLDER, name), encoding="utf-8", newline="") as file:
        return file.read()


def nodes_of(name, kind):
    """All nodes of a kind in a file, with their file and line for messages."""
    return [(node, f"{name}:{getattr(node, 'lineno', 0)}") for node in ast.walk(ast.parse(text_of(name)))
            if isinstance(node, kind)]


def all_nodes(kind):
    """All nodes of a kind in all files."""
    return [pair for name in file_names() for pair in nodes_of(name, kind)]


def imports_of(name):
    """The imports of a file: pairs of a module and a name."""
    return [(node.module, alias.name) for node, _ in nodes_of(name, ast.ImportFrom) for alias in node.names]


def defined_in(name):
    """The functions, classes and values that a file defines at module level."""
    body = ast.parse(text_of(name)).body
    named = [node.name for node in body if isinstance(node, (ast.FunctionDef, ast.ClassDef))]
    return named + [target.id for node in body if isinstance(node, ast.Assign) for target in node.targets]


class TestFiles(unittest.TestCase):
    def test_only_sources_stand_in_the_folder(self):
        self.assertIn("__init__.py", file_names())
        for name in file_names():
            self.assertRegex(name, r"^[a-z0-9_]+\.py$")

    def test_characters(self):
        for name in file_names():
            self.assertTrue(all([sign == "\n" or " " <= sign <= "~" for sign in text_of(name)]), name)

    def test_sizes(self):
        for name in file_names():
            lines = text_of(name).split("\n")
            self.assertLessEqual(len(lines), 399, name)
            self.assertLessEqual(max([len(line) for line in lines]), 120, name)
        for node, at in all_nodes(ast.FunctionDef):
            self.assertLessEqual(node.end_lineno - node.lineno + 1, 40, at)

    def test_every_file_class_and_function_says_what_it_is(self):
        for name in file_names():
            self.assertTrue(ast.get_docstring(ast.parse(text_of(name))), name)
        for node, at in all_nodes((ast.FunctionDef, ast.ClassDef)):
            if node.name not in ("__init__", "__eq__"):
                self.assertTrue(ast.get_docstring(node), at)


class TestImports(unittest.TestCase):
    def test_imports_name_the_file_that_defines_the_name(self):
        self.assertEqual(all_nodes(ast.Import), [])
        for node, at in all_nodes(ast.ImportFrom):
            self.assertEqual((node.level, [alias.asname for alias in node.names if alias.asname]), (0, []), at)
            for alias in node.names:
                if node.module in LIBRARY:
                    self.assertIn(alias.name, LIBRARY[node.module], at)
                else:
                    package, module = node.module.split(".")
                    self.assertEqual(package, "roundcopies", at)
                    self.assertIn(alias.name, defined_in(f"{module}.py"), at)

    def test_each_import_is_used(self):
        for name in file_names():
            used = {node.id for node, _ in nodes_of(name, ast.Name)}
            for _, imported in imports_of(name):
                self.assertIn(imported, used, name)

    def test_no_two_files_import_from_each_other(self):
        above = {name: {f"{module.split('.')[-1]}.py" for module, _ in imports_of(name)} for name in file_names()}
        above = {name: {other for other in others if other in above} for name, others in above.items()}
        while above:
            free = [name for name, others in above.items() if not others]
            self.assertTrue(free, above)
            above = {name: others - set(free) for name, others in above.items() if name not in free}


class TestNames(unittest.TestCase):
    def bound_in(self, name):
        """All names that a file binds in functions: parameters, targets, comprehensions."""
        named = [(node.arg, at) for node, at in nodes_of(name, ast.arg)]
        return named + [(node.id, at) for node, at in nodes_of(name, ast.Name) if isinstance(node.ctx, ast.Store)]

    def test_no_name_hides_a_builtin_an_import_or_a_class(self):
        for name in file_names():
            classes = [node.name for node, _ in nodes_of(name, ast.ClassDef)]
            hidden = {*dir(builtins), *BARRED, *classes, *[imported for _, imported in imports_of(name)]}
            for bound, at in self.bound_in(name):
                self.assertNotIn(bound, hidden, at)
            for node, at in nodes_of(name, ast.FunctionDef):
                self.assertNotIn(node.name, {*dir(builtins), *BARRED}, at)
            names = [*defined_in(name), *[imported for _, imported in imports_of(name)]]
            self.assertEqual(len(names), len(set(names)), name)

    def test_no_barred_words(self):
        for node, at in all_nodes((ast.Name, ast.Attribute)):
            self.assertNotIn(node.id if isinstance(node, ast.Name) else node.attr, BARRED, at)

    def test_names_that_are_called(self):
        for name in file_names():
            own = {*defined_in(name), *[imported for _, imported in imports_of(name)]}
            for node, at in nodes_of(name, ast.Call):
                if isinstance(node.func, ast.Name):
                    self.assertTrue(node.func.id in own or node.func.id in (*CALLED, *HANDED_IN), at)

    def test_methods_that_are_called(self):
        own = {node.name for node, _ in all_nodes(ast.FunctionDef)}
        for node, at in all_nodes(ast.Call):
            if isinstance(node.func, ast.Attribute):
                self.assertTrue(node.func.attr in own or node.func.attr in METHODS, at)

    def test_own_methods_have_no_name_of_a_builtin_one(self):
        taken = {name for kind in (int, str, bytes, list, tuple, dict, set) for name in dir(kind)}
        for node, at in all_nodes(ast.ClassDef):
            for method in node.body:
                if isinstance(method, ast.FunctionDef) and method.name not in ("__init__", "__eq__", "copy"):
                    self.assertNotIn(method.name, taken, at)

    def test_no_name_is_a_method_and_an_attribute_of_one_class(self):
        for node, at in all_nodes(ast.ClassDef):
            methods = {method.name for method in node.body if isinstance(method, ast.FunctionDef)}
            stored = {inner.attr for inner in ast.walk(node) if isinstance(inner, ast.Attribute)
                      and isinstance(inner.ctx, ast.Store)}
            self.assertEqual(methods & stored, set(), at)
            self.assertEqual(stored & {"items", "keys", "values", "pop", "update", "sort", "args", "format"}, set(), at)


class TestStatements(unittest.TestCase):
    def test_no_barred_statements(self):
        self.assertEqual(all_nodes(BARRED_NODES), [])
        for node, at in all_nodes(ast.BinOp):
            if isinstance(node.op, ast.Pow):
                self.assertTrue(isinstance(node.left, ast.Constant) and isinstance(node.right, ast.Constant), at)

    def test_own_errors_alone_are_caught(self):
        own = [name for name in defined_in("errors.py") if name != "CopyError"]
        for node, at in all_nodes(ast.Try):
            self.assertEqual((node.orelse, node.finalbody), ([], []), at)
            for handler in node.handlers:
                self.assertIsInstance(handler.type, ast.Name, at)
                self.assertIn(handler.type.id, own, at)
                self.assertIsNone(handler.name, at)

    def test_no_decorators_and_no_nested_functions(self):
        for node, at in all_nodes((ast.FunctionDef, ast.ClassDef)):
            self.assertEqual(node.decorator_list, [], at)
        for node, at in all_nodes(ast.FunctionDef):
            inner = [one for one in ast.walk(node) if isinstance(one, ast.FunctionDef) and one is not node]
            self.assertEqual(inner, [], at)

    def test_is_stands_beside_none_and_flags(self):
        for node, at in all_nodes(ast.Compare):
            if any([isinstance(sign, (ast.Is, ast.IsNot)) for sign in node.ops]):
                sides = [side.value for side in (node.left, *node.comparators) if isinstance(side, ast.Constant)]
                self.assertTrue(any([value is None or value is True or value is False for value in sides]), at)

    def test_no_floats_and_no_bytes(self):
        for node, at in all_nodes(ast.Constant):
            self.assertNotIsInstance(node.value, (float, complex, bytes), at)

    def test_sets_are_measured_or_sorted_at_once(self):
        self.assertEqual(all_nodes((ast.Set, ast.SetComp)), [])
        held = [inner for node, _ in all_nodes(ast.Call) if isinstance(node.func, ast.Name)
                and node.func.id in ("len", "sorted") for inner in node.args]
        for node, at in all_nodes(ast.Call):
            if isinstance(node.func, ast.Name) and node.func.id == "set":
                self.assertIn(ast.dump(node), [ast.dump(inner) for inner in held], at)

    def test_no_code_at_module_level(self):
        for name in file_names():
            for node in ast.parse(text_of(name)).body[1:]:
                kinds = (ast.ImportFrom, ast.FunctionDef, ast.ClassDef, ast.Assign)
                self.assertIsInstance(node, kinds, f"{name}:{node.lineno}")


if __name__ == "__main__":
    unittest.main()
