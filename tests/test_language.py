"""The rules of the language that can be seen in the files of the package."""

import ast
import builtins
import pathlib
import re
import unittest

PACKAGE = pathlib.Path(__file__).resolve().parent.parent / "everychange"
FILES = sorted(PACKAGE.glob("*.py"))
METHODS = set("""append clear copy count endswith extend find get index insert isalnum isalpha isdigit islower isspace
    isupper items join keys ljust lower lstrip partition pop remove replace reverse rfind rjust rpartition rsplit rstrip
    setdefault split splitlines startswith strip update upper values zfill bit_length isascii sort add""".split())
BUILTINS = set("""len range enumerate zip min max sum abs sorted reversed int str bool list tuple dict set isinstance
    ord repr any all divmod next ValueError LookupError IndexError KeyError""".split())
LIBRARY = {"math": {"gcd", "lcm", "isqrt", "comb", "perm", "factorial"},
           "heapq": {"heappush", "heappop", "heapify", "heapreplace", "heappushpop"}}
BARRED = re.compile(r"\b(type|typing|enum|Enum|Generic|Protocol|ABC|namedtuple|open|input|law|elements|register)\b")
BARRED_NAMES = re.compile(r"_wall|_pe_|_dcw_|_enum_|_cm_|_twin_re_|_lay_|_law_|_stub_|_sre|_WallAttr"
                          r"|(_cold|_tuplegetter|_outside|_record|_written_out|_member_names)[0-9_]*$")


def names_bound(tree):
    """The names that are parameters, targets or definitions anywhere in the tree."""
    for node in ast.walk(tree):
        if isinstance(node, ast.Name) and isinstance(node.ctx, ast.Store):
            yield node.id, node
        elif isinstance(node, ast.arg):
            yield node.arg, node
        elif isinstance(node, (ast.FunctionDef, ast.ClassDef)):
            yield node.name, node


class Language(unittest.TestCase):

    def trees(self):
        for path in FILES:
            yield path.name, ast.parse(path.read_text())

    def test_the_folder_contains_nothing_else(self):
        others = [path.name for path in PACKAGE.iterdir() if path.suffix != ".py" and path.name != "__pycache__"]
        self.assertEqual(others, [])
        self.assertLessEqual(len(FILES), 100)

    def test_sizes_and_characters(self):
        for path in FILES:
            lines = path.read_text().split("\n")
            self.assertLessEqual(len(lines) - 1, 399, path.name)
            for number, line in enumerate(lines, 1):
                where = f"{path.name}:{number}"
                self.assertLessEqual(len(line), 120, where)
                self.assertTrue(all(" " <= sign <= "~" for sign in line), where)
        for name, tree in self.trees():
            for node in ast.walk(tree):
                if isinstance(node, ast.FunctionDef):
                    self.assertLessEqual(node.end_lineno - node.lineno + 1, 40, f"{name}:{node.name}")

    def test_statements(self):
        barred = (ast.Yield, ast.YieldFrom, ast.Global, ast.AsyncFunctionDef, ast.Await, ast.Import, ast.AnnAssign)
        for name, tree in self.trees():
            for node in ast.walk(tree):
                where = f"{name}:{getattr(node, 'lineno', 0)}"
                self.assertNotIsInstance(node, barred, where)
                if isinstance(node, (ast.FunctionDef, ast.ClassDef)):
                    self.assertEqual(node.decorator_list, [], where)
                if isinstance(node, ast.Constant):
                    self.assertNotIsInstance(node.value, (float, complex, bytes), where)
                if isinstance(node, ast.BinOp):
                    self.assertNotIsInstance(node.op, (ast.Div, ast.MatMult), where)
                    if isinstance(node.op, ast.Pow):
                        self.assertIsInstance(node.right, ast.Constant, where)
                        self.assertTrue(0 <= node.right.value <= 64, where)
                if isinstance(node, ast.Compare):
                    for sign, side in zip(node.ops, node.comparators):
                        if isinstance(sign, (ast.Is, ast.IsNot)):
                            self.assertIsInstance(side, ast.Constant, where)

    def test_module_level(self):
        let = (ast.Import, ast.ImportFrom, ast.FunctionDef, ast.ClassDef, ast.Assign, ast.Expr)
        for name, tree in self.trees():
            bound = []
            for at, node in enumerate(tree.body):
                self.assertIsInstance(node, let, name)
                if isinstance(node, ast.Expr):
                    self.assertTrue(at == 0 and isinstance(node.value, ast.Constant), name)
                if isinstance(node, ast.ImportFrom):
                    bound.extend(alias.name for alias in node.names)
                if isinstance(node, (ast.FunctionDef, ast.ClassDef)):
                    bound.append(node.name)
                if isinstance(node, ast.Assign):
                    bound.extend(target.id for target in node.targets)
            self.assertEqual(len(bound), len(set(bound)), name)

    def test_imports(self):
        homes = {}
        for name, tree in self.trees():
            homes[name[:-3]] = {node.name for node in tree.body if isinstance(node, (ast.FunctionDef, ast.ClassDef))}
            for node in tree.body:
                if isinstance(node, ast.Assign):
                    homes[name[:-3]].update(target.id for target in node.targets)
        uses = {}
        for name, tree in self.trees():
            uses[name[:-3]] = set()
            for node in ast.walk(tree):
                if isinstance(node, ast.ImportFrom):
                    names = {alias.name for alias in node.names}
                    self.assertEqual(node.level, 0)
                    self.assertTrue(all(alias.asname is None for alias in node.names))
                    if node.module in LIBRARY:
                        self.assertLessEqual(names, LIBRARY[node.module])
                        continue
                    package, _, module = node.module.partition(".")
                    self.assertEqual(package, "everychange")
                    self.assertLessEqual(names, homes[module], name)
                    self.assertFalse([word for word in names if word.startswith("_")], name)
                    uses[name[:-3]].add(module)
                    used = {inner.id for inner in ast.walk(tree) if isinstance(inner, ast.Name)}
                    self.assertLessEqual(names, used, f"{name}: imported in vain")
        for module in uses:
            self.assertNotIn(module, self.reached(uses, module), "files import from each other")

    def reached(self, uses, module):
        found, waiting = set(), list(uses[module])
        while waiting:
            further = waiting.pop()
            if further not in found:
                found.add(further)
                waiting.extend(uses[further])
        return found

    def test_names(self):
        for name, tree in self.trees():
            imported = {alias.name for node in tree.body if isinstance(node, ast.ImportFrom) for alias in node.names}
            classes = {node.name for node in tree.body if isinstance(node, ast.ClassDef)}
            for word, node in names_bound(tree):
                where = f"{name}:{node.lineno}: {word}"
                self.assertFalse(hasattr(builtins, word) and word != "__init__", where)
                self.assertNotIn(word, imported, where)
                self.assertTrue(word not in classes or isinstance(node, ast.ClassDef), where)
                self.assertTrue(re.fullmatch(r"_|_?[A-Za-z][A-Za-z0-9_]*|__init__", word), where)
                self.assertIsNone(BARRED_NAMES.match(word), where)
            for node in ast.walk(tree):
                if isinstance(node, ast.Name) and isinstance(node.ctx, ast.Load):
                    self.assertNotEqual(node.id, "_", f"{name}:{node.lineno}")
                    if hasattr(builtins, node.id):
                        self.assertIn(node.id, BUILTINS, f"{name}:{node.lineno}")

    def test_no_function_is_left_over(self):
        text = "\n".join(path.read_text() for path in FILES)
        for name, tree in self.trees():
            for node in tree.body:
                if isinstance(node, ast.FunctionDef) and node.name.startswith("_"):
                    own = (PACKAGE / name).read_text()
                    self.assertGreater(len(re.findall(rf"\b{node.name}\b", own)), 1, f"{name}:{node.name}")
        self.assertNotIn("\t", text)

    def test_methods_of_builtin_values(self):
        own = set()
        for name, tree in self.trees():
            for node in ast.walk(tree):
                if isinstance(node, ast.ClassDef):
                    own.update(inner.name for inner in node.body if isinstance(inner, ast.FunctionDef))
        for name, tree in self.trees():
            for node in ast.walk(tree):
                if isinstance(node, ast.Call) and isinstance(node.func, ast.Attribute):
                    where = f"{name}:{node.lineno}: {node.func.attr}"
                    self.assertIn(node.func.attr, METHODS | own, where)

    def test_attributes(self):
        methods, attributes = set(), set()
        for name, tree in self.trees():
            for node in ast.walk(tree):
                if isinstance(node, ast.ClassDef):
                    methods.update(inner.name for inner in node.body if isinstance(inner, ast.FunctionDef))
                if isinstance(node, ast.Attribute) and isinstance(node.ctx, ast.Store):
                    attributes.add(node.attr)
        self.assertEqual(methods & attributes, set())
        builtin = {word for own in (str, int, list, dict, set, bytes) for word in dir(own)}
        self.assertEqual((methods | attributes) & builtin, {"__init__"})

    def test_what_stands_behind_a_star(self):
        for name, tree in self.trees():
            for node in ast.walk(tree):
                if isinstance(node, ast.Call):
                    for argument in node.args:
                        if isinstance(argument, ast.Starred):
                            self.assertIsInstance(argument.value, (ast.Name, ast.Attribute), f"{name}:{node.lineno}")

    def test_what_is_kept_is_assigned_alone(self):
        once = ("set", "range", "zip", "enumerate", "reversed")
        for name, tree in self.trees():
            for node in ast.walk(tree):
                if isinstance(node, ast.Assign) and isinstance(node.value, ast.Tuple):
                    for value in node.value.elts:
                        if isinstance(value, ast.Call) and isinstance(value.func, ast.Name):
                            self.assertNotIn(value.func.id, once, f"{name}:{node.lineno}")

    def test_words(self):
        for name, tree in self.trees():
            for node in ast.walk(tree):
                if isinstance(node, (ast.FunctionDef, ast.ClassDef, ast.Module)):
                    self.assertIsNotNone(ast.get_docstring(node) or node.name == "__init__", name)
                    if node.body and isinstance(node.body[0], ast.Expr) and len(node.body) > 1:
                        node.body = node.body[1:]
            self.assertIsNone(BARRED.search(ast.unparse(tree)), name)
            for node in ast.walk(tree):
                if isinstance(node, ast.Constant) and isinstance(node.value, str):
                    self.assertNotIn(chr(37), node.value, name)


if __name__ == "__main__":
    unittest.main()
