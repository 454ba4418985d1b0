"""Those rules of LANGUAGE.md that a short test can see, over all files of the package."""

import ast
import builtins
import pathlib
import re
import unittest

PACKAGE = pathlib.Path(__file__).resolve().parent.parent / "partlabels"
FILES = sorted(PACKAGE.rglob("*.py"))
LIBRARY = {"heapq": "heappush heappop heapify heapreplace heappushpop", "math": "gcd lcm isqrt comb perm factorial",
           "itertools": "product combinations permutations chain accumulate pairwise islice zip_longest",
           "collections": "defaultdict", "__future__": "annotations"}
BUILTINS = """len range enumerate zip min max sum abs sorted reversed int str bool list tuple dict set isinstance ord
    repr any all divmod pow iter next map getattr hasattr setattr property staticmethod classmethod super object
    Exception ValueError TypeError KeyError IndexError LookupError ZeroDivisionError ArithmeticError OverflowError
    RuntimeError NotImplementedError AttributeError StopIteration NotImplemented""".split()
DECORATORS = ("property", "staticmethod", "classmethod")
UNUSED = re.compile(r"\b(typing|enum|Enum|Generic|Protocol|ABC|namedtuple|abstractmethod|_wall|_WallAttr)\b")
STRANGE = (ast.Global, ast.AsyncFunctionDef, ast.Await, ast.Div, ast.MatMult)
METHODS = "init eq repr str len enter exit call add mul".split()


def trees():
    for path in FILES:
        yield path, ast.parse(path.read_text(encoding="ascii"))


class Files(unittest.TestCase):
    def test_the_folder_contains_files_with_plain_names(self):
        self.assertTrue(PACKAGE.joinpath("__init__.py").is_file())
        self.assertLessEqual(len(FILES), 100)
        for path in PACKAGE.rglob("*"):
            if "__pycache__" not in path.parts:
                with self.subTest(path):
                    self.assertRegex(path.name, r"\A(__init__|[a-z][a-z0-9_]*)\.py\Z")
                    self.assertNotIn(path.stem, dir(builtins))

    def test_signs_and_sizes(self):
        for path in FILES:
            text = path.read_text(encoding="ascii")
            lines = text.split("\n")
            with self.subTest(path.name):
                self.assertEqual(re.findall(r"[^\n -~]", text), [])
                self.assertLessEqual(len(lines), 400)
                self.assertLessEqual(max(len(line) for line in lines), 120)
                self.assertIsNone(UNUSED.search(text))

    def test_functions_have_at_most_forty_lines(self):
        for path, tree in trees():
            for node in ast.walk(tree):
                if isinstance(node, ast.FunctionDef):
                    with self.subTest(path.name, function=node.name):
                        self.assertLessEqual(node.end_lineno - node.lineno + 1, 40)


class Words(unittest.TestCase):
    def test_imports(self):
        for path, tree in trees():
            top = [node for node in tree.body if isinstance(node, ast.ImportFrom)]
            for node in ast.walk(tree):
                with self.subTest(path.name, line=getattr(node, "lineno", 0)):
                    self.assertNotIsInstance(node, ast.Import)
                    if isinstance(node, ast.ImportFrom):
                        self.assertIn(node, top)
                        self.assertEqual(node.level, 0)
                        for alias in node.names:
                            self.check_import(node.module, alias)

    def check_import(self, module, alias):
        if module in LIBRARY:
            self.assertIn(alias.name, LIBRARY[module].split())
            self.assertIsNone(alias.asname)
            return
        folder, _, file = module.partition(".")
        self.assertEqual(folder, "partlabels")
        source = ast.parse(PACKAGE.joinpath(*file.split(".")).with_suffix(".py").read_text(encoding="ascii"))
        defined = [node.name for node in source.body if isinstance(node, (ast.FunctionDef, ast.ClassDef))]
        for node in source.body:
            if isinstance(node, ast.Assign):
                defined.append(node.targets[0].id)
        self.assertIn(alias.name, defined)

    def test_builtins(self):
        for path, tree in trees():
            for node in ast.walk(tree):
                if isinstance(node, ast.Name) and hasattr(builtins, node.id):
                    with self.subTest(path.name, line=node.lineno):
                        self.assertIn(node.id, BUILTINS)
                        self.assertIsInstance(node.ctx, ast.Load)
                if isinstance(node, ast.arg):
                    self.assertFalse(hasattr(builtins, node.arg), node.arg)

    def test_strings_and_numbers(self):
        for path, tree in trees():
            for node in ast.walk(tree):
                with self.subTest(path.name, line=getattr(node, "lineno", 0)):
                    self.assertNotIsInstance(node, STRANGE)
                    if isinstance(node, ast.Constant):
                        self.assertNotIsInstance(node.value, (float, complex))
                        self.assertNotIn("%", str(node.value))

    def test_double_underscores(self):
        for path, tree in trees():
            for node in ast.walk(tree):
                if isinstance(node, ast.FunctionDef) and node.name.startswith("__"):
                    with self.subTest(path.name, method=node.name):
                        self.assertIn(node.name, [f"__{word}__" for word in METHODS])
                        if node.name in ("__add__", "__mul__", "__eq__"):
                            self.assertEqual([parameter.arg for parameter in node.args.args], ["self", "other"])

    def test_what_goes_over_a_generator(self):
        # Beside classes with `==`, functions such as `any` and `sorted` take lists.
        for path, tree in trees():
            for node in ast.walk(tree):
                with self.subTest(path.name, line=getattr(node, "lineno", 0)):
                    self.assertNotIsInstance(node, ast.GeneratorExp)

    def test_no_two_files_import_from_each_other(self):
        imports = {}
        for path, tree in trees():
            found = [node.module for node in tree.body if isinstance(node, ast.ImportFrom)]
            imports[f"partlabels.{path.stem}"] = [name for name in found if name not in LIBRARY]
        while imports:
            free = [name for name, needed in imports.items() if not any(other in imports for other in needed)]
            self.assertNotEqual(free, [], imports)
            for name in free:
                del imports[name]

    def test_decorators(self):
        for path, tree in trees():
            for node in ast.walk(tree):
                if isinstance(node, ast.ClassDef):
                    self.assertEqual(node.decorator_list, [])
                if isinstance(node, ast.FunctionDef):
                    for decorator in node.decorator_list:
                        with self.subTest(path.name, function=node.name):
                            word = decorator.attr if isinstance(decorator, ast.Attribute) else decorator.id
                            self.assertIn(word, [*DECORATORS, "setter"])


if __name__ == "__main__":
    unittest.main()
