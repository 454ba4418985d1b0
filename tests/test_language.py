"""Those rules of LANGUAGE.md that a short test can see, over all files of the package."""

import ast
import builtins
import pathlib
import re
import unittest

PACKAGE = pathlib.Path(__file__).resolve().parent.parent / "partlabels"
FILES = sorted(PACKAGE.rglob("*.py"))
LIBRARY = {"heapq": "heappush heappop heapify heapreplace heappushpop", "math": "gcd lcm isqrt comb perm factorial",
           "itertools": "product combinations permutations chain accumulate pairwise islice zip_longest",
           "collections": "defaultdict", "__future__": "annotations"}
BUILTINS = """len range enumerate zip min max sum abs sorted reversed int str bool list tuple dict set isinstance ord
    repr any all divmod pow iter next map getattr hasattr setattr property staticmethod classmethod super object
    Exception ValueError TypeError KeyError IndexError LookupError ZeroDivisionError ArithmeticError OverflowError
    RuntimeError NotImplementedError AttributeError StopIteration NotImplemented""".split()
DECORATORS = ("property", "staticmethod", "classmethod")
UNUSED = re.compile(r"\b(typing|enum|Enum|Generic|Protocol|ABC|namedtuple|abstractmethod|_wall|_WallAttr)\b")
STRANGE = (ast.Global, ast.AsyncFunctionDef, ast.Await, ast.Div, ast.MatMult)
METHODS = "init eq repr str len enter exit call add mul".split()
STATEMENTS = (ast.Assign, ast.AugAssign, ast.AnnAssign, ast.If, ast.While, ast.For, ast.Return, ast.Break, ast.Continue,
              ast.Pass, ast.Raise, ast.Assert, ast.Delete, ast.With, ast.Try, ast.Expr, ast.FunctionDef, ast.ClassDef,
              ast.ImportFrom)
BUILTIN_METHODS = """append clear copy count endswith extend find get index insert isalnum isalpha isdigit islower isspace
    isupper items join keys ljust lower lstrip partition pop remove replace reverse rfind rjust rpartition rsplit rstrip
    setdefault split splitlines startswith strip update upper values zfill bit_length removeprefix removesuffix isascii
    """.split()
AT_ONCE = "list tuple dict sorted sum any all enumerate zip min max".split()
CHANGING = "append clear extend insert pop remove reverse setdefault update".split()


def trees():
    for path in FILES:
        yield path, ast.parse(path.read_text(encoding="ascii"))


class Files(unittest.TestCase):
    def test_the_folder_contains_files_with_plain_names(self):
        self.assertTrue(PACKAGE.joinpath("__init__.py").is_file())
        self.assertLessEqual(len(FILES), 100)
        for path in PACKAGE.rglob("*"):
            if "__pycache__" not in path.parts:
                with self.subTest(path):
                    self.assertRegex(path.name, r"\A(__init__|[a-z][a-z0-9_]*)\.py\Z")
                    self.assertNotIn(path.stem, dir(builtins))

    def test_signs_and_sizes(self):
        for path in FILES:
            text = path.read_text(encoding="ascii")
            lines = text.split("\n")
            with self.subTest(path.name):
                self.assertEqual(re.findall(r"[^\n -~]", text), [])
                self.assertLessEqual(len(lines), 400)
                self.assertLessEqual(max(len(line) for line in lines), 120)
                self.assertIsNone(UNUSED.search(text))

    def test_functions_have_at_most_forty_lines(self):
        for path, tree in trees():
            for node in ast.walk(tree):
                if isinstance(node, ast.FunctionDef):
                    with self.subTest(path.name, function=node.name):
                        self.assertLessEqual(node.end_lineno - node.lineno + 1, 40)


class Words(unittest.TestCase):
    def test_imports(self):
        for path, tree in trees():
            top = [node for node in tree.body if isinstance(node, ast.ImportFrom)]
            for node in ast.walk(tree):
                with self.subTest(path.name, line=getattr(node, "lineno", 0)):
                    self.assertNotIsInstance(node, ast.Import)
                    if isinstance(node, ast.ImportFrom):
                        self.assertIn(node, top)
                        self.assertEqual(node.level, 0)
                        for alias in node.names:
                            self.check_import(node.module, alias)

    def check_import(self, module, alias):
        if module in LIBRARY:
            self.assertIn(alias.name, LIBRARY[module].split())
            self.assertIsNone(alias.asname)
            return
        folder, _, file = module.partition(".")
        self.assertEqual(folder, "partlabels")
        source = ast.parse(PACKAGE.joinpath(*file.split(".")).with_suffix(".py").read_text(encoding="ascii"))
        defined = [node.name for node in source.body if isinstance(node, (ast.FunctionDef, ast.ClassDef))]
        for node in source.body:
            if isinstance(node, ast.Assign):
                defined.append(node.targets[0].id)
        self.assertIn(alias.name, defined)

    def test_builtins(self):
        for path, tree in trees():
            for node in ast.walk(tree):
                if isinstance(node, ast.Name) and hasattr(builtins, node.id):
                    with self.subTest(path.name, line=node.lineno):
                        self.assertIn(node.id, BUILTINS)
                        self.assertIsInstance(node.ctx, ast.Load)
                if isinstance(node, ast.arg):
                    self.assertFalse(hasattr(builtins, node.arg), node.arg)

    def test_strings_and_numbers(self):
        for path, tree in trees():
            for node in ast.walk(tree):
                with self.subTest(path.name, line=getattr(node, "lineno", 0)):
                    self.assertNotIsInstance(node, STRANGE)
                    if isinstance(node, ast.Constant):
                        self.assertNotIsInstance(node.value, (float, complex))
                        self.assertNotIn("%", str(node.value))

    def test_double_underscores(self):
        for path, tree in trees():
            for node in ast.walk(tree):
                if isinstance(node, ast.FunctionDef) and node.name.startswith("__"):
                    with self.subTest(path.name, method=node.name):
                        self.assertIn(node.name, [f"__{word}__" for word in METHODS])
                        if node.name in ("__add__", "__mul__", "__eq__"):
                            self.assertEqual([parameter.arg for parameter in node.args.args], ["self", "other"])

    def test_what_goes_over_a_generator(self):
        # Beside classes with `==`, functions such as `any` and `sorted` take lists.
        for path, tree in trees():
            for node in ast.walk(tree):
                with self.subTest(path.name, line=getattr(node, "lineno", 0)):
                    self.assertNotIsInstance(node, ast.GeneratorExp)

    def test_no_two_files_import_from_each_other(self):
        imports = {}
        for path, tree in trees():
            found = [node.module for node in tree.body if isinstance(node, ast.ImportFrom)]
            imports[f"partlabels.{path.stem}"] = [name for name in found if name not in LIBRARY]
        while imports:
            free = [name for name, needed in imports.items() if not any(other in imports for other in needed)]
            self.assertNotEqual(free, [], imports)
            for name in free:
                del imports[name]

    def test_statements(self):
        for path, tree in trees():
            for node in ast.walk(tree):
                if isinstance(node, ast.stmt):
                    with self.subTest(path.name, line=node.lineno):
                        self.assertIsInstance(node, STATEMENTS)
                if isinstance(node, ast.Compare):
                    for sign, other in zip(node.ops, node.comparators):
                        if isinstance(sign, (ast.Is, ast.IsNot)):
                            self.assertIsInstance(other, ast.Constant)
                self.assertNotIsInstance(node, (ast.Set, ast.SetComp, ast.NamedExpr), path.name)

    def test_names_of_local_variables(self):
        for path, tree in trees():
            barred = {node.name for node in tree.body if isinstance(node, ast.ClassDef)}
            for node in tree.body:
                if isinstance(node, ast.ImportFrom):
                    barred.update(alias.name for alias in node.names)
            for node in ast.walk(tree):
                with self.subTest(path.name, line=getattr(node, "lineno", 0)):
                    if isinstance(node, ast.Name) and isinstance(node.ctx, ast.Store):
                        self.assertNotIn(node.id, barred)
                    if isinstance(node, ast.Name) and isinstance(node.ctx, ast.Load):
                        self.assertNotEqual(node.id, "_")
                    if isinstance(node, ast.arg):
                        self.assertNotIn(node.arg, barred)

    def test_methods_that_are_called(self):
        own = {node.name for _, tree in trees() for node in ast.walk(tree) if isinstance(node, ast.FunctionDef)}
        for path, tree in trees():
            for node in ast.walk(tree):
                if isinstance(node, ast.Attribute) and isinstance(node.ctx, ast.Load):
                    with self.subTest(path.name, line=node.lineno):
                        self.assertIn(node.attr, {*own, *BUILTIN_METHODS, *self.attributes()})

    def attributes(self):
        return {node.attr for _, tree in trees() for node in ast.walk(tree)
                if isinstance(node, ast.Attribute) and isinstance(node.ctx, ast.Store)}

    def test_no_name_is_a_method_and_an_attribute(self):
        for path, tree in trees():
            for node in ast.walk(tree):
                if isinstance(node, ast.ClassDef):
                    methods = {item.name for item in node.body if isinstance(item, ast.FunctionDef)}
                    stored = {item.attr for item in ast.walk(node)
                              if isinstance(item, ast.Attribute) and isinstance(item.ctx, ast.Store)}
                    self.assertEqual(methods & stored, set(), (path.name, node.name))

    def test_generators_have_names_of_their_own(self):
        names, generators = [], []
        for _, tree in trees():
            for node in ast.walk(tree):
                if isinstance(node, ast.FunctionDef):
                    names.append(node.name)
                    if any(isinstance(item, (ast.Yield, ast.YieldFrom)) for item in ast.walk(node)):
                        generators.append(node.name)
        for name in generators:
            self.assertEqual(names.count(name), 1, name)

    def test_what_is_iterated_at_once(self):
        for path, tree in trees():
            allowed = []
            for node in ast.walk(tree):
                if isinstance(node, (ast.For, ast.comprehension)):
                    allowed.append(node.iter)
                if isinstance(node, ast.Call) and isinstance(node.func, ast.Name) and node.func.id in AT_ONCE:
                    allowed.extend(node.args)
                if isinstance(node, ast.Call) and isinstance(node.func, ast.Name) and node.func.id == "reversed":
                    allowed.extend(item for item in node.args if getattr(item.func, "id", "") == "range")
            for node in ast.walk(tree):
                if isinstance(node, ast.Call):
                    name = getattr(node.func, "id", getattr(node.func, "attr", ""))
                    if name in ("zip", "enumerate", "reversed", "range", "items", "keys", "values"):
                        if name == "values" and isinstance(node.func, ast.Name):
                            continue
                        with self.subTest(path.name, line=node.lineno):
                            self.assertIn(node, allowed)

    def test_loops_change_nothing_that_they_go_over(self):
        for path, tree in trees():
            for node in ast.walk(tree):
                if isinstance(node, ast.For):
                    over = {ast.unparse(item) for item in ast.walk(node.iter) if isinstance(item, (ast.Name, ast.Attribute))}
                    for item in ast.walk(ast.Module(node.body, [])):
                        with self.subTest(path.name, line=node.lineno):
                            if isinstance(item, ast.Call) and isinstance(item.func, ast.Attribute):
                                if item.func.attr in CHANGING:
                                    self.assertNotIn(ast.unparse(item.func.value), over)
                            if isinstance(item, ast.Subscript) and isinstance(item.ctx, ast.Store):
                                self.assertNotIn(ast.unparse(item.value), over)

    def test_decorators(self):
        for path, tree in trees():
            for node in ast.walk(tree):
                if isinstance(node, ast.ClassDef):
                    self.assertEqual(node.decorator_list, [])
                if isinstance(node, ast.FunctionDef):
                    for decorator in node.decorator_list:
                        with self.subTest(path.name, function=node.name):
                            word = decorator.attr if isinstance(decorator, ast.Attribute) else decorator.id
                            self.assertIn(word, [*DECORATORS, "setter"])


if __name__ == "__main__":
    unittest.main()
