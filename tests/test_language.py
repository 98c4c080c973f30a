"""The package keeps to ../shared/LANGUAGE.md, as far as a short look at its files can tell."""

import ast
import builtins
import pathlib
import re
import unittest
import warnings

HERE = pathlib.Path(__file__).resolve().parent.parent / "nearcall"
BUILTINS = set("""len range enumerate zip min max sum abs sorted reversed int str bool bytes list tuple dict set
    isinstance ord repr any all divmod Exception ValueError TypeError KeyError IndexError LookupError
    ZeroDivisionError ArithmeticError OverflowError RuntimeError NotImplementedError AttributeError
    StopIteration NotImplemented super property staticmethod classmethod iter next""".split())
METHODS = set("""append clear copy count endswith extend find get index insert isalnum isalpha isdigit islower isspace
    isupper items join keys ljust lower lstrip partition pop remove replace reverse rfind rjust rpartition rsplit
    rstrip setdefault split splitlines startswith strip update upper values zfill bit_length title capitalize swapcase
    casefold center expandtabs removeprefix removesuffix rindex isascii isdecimal isnumeric istitle isidentifier
    isprintable sort add discard""".split())
DOUBLE = set("""__init__ __eq__ __repr__ __str__ __len__ __enter__ __exit__ __call__ __iter__""".split())
WORDS = set("""type typing typing_extensions enum Enum IntEnum StrEnum Flag IntFlag Generic Protocol ABC ABCMeta
    namedtuple NamedTuple TypedDict TYPE_CHECKING abstractmethod""".split())
NAMES = set("""register mro elements open input version_info with_traceback add_note attrgetter breakpoint builtins
    compile copyright credits delattr dir eval exec exit gc getattr globals hasattr help id importlib license locals
    methodcaller os quit setattr type vars sys format format_map""".split())
BARRED = (ast.Global, ast.AsyncFunctionDef, ast.AsyncFor, ast.AsyncWith, ast.Await, ast.Import, ast.Div)
GREEDY = ("any", "all", "min", "max", "sum", "sorted")


def files():
    return sorted(HERE.glob("*.py"))


def bound_names(tree):
    """Every name that a file binds: by definitions, parameters, imports and targets."""
    found = set()
    for node in ast.walk(tree):
        if isinstance(node, (ast.FunctionDef, ast.ClassDef)):
            found.add(node.name)
        elif isinstance(node, ast.arg):
            found.add(node.arg)
        elif isinstance(node, ast.alias):
            found.add(node.asname or node.name)
        elif isinstance(node, ast.ExceptHandler) and node.name:
            found.add(node.name)
        elif isinstance(node, ast.Name) and isinstance(node.ctx, ast.Store):
            found.add(node.id)
    return found


class Files(unittest.TestCase):
    def each(self):
        for path in files():
            text = path.read_text("utf-8")
            yield path, text, ast.parse(text)

    def test_folder(self):
        names = [path.name for path in HERE.iterdir() if path.name != "__pycache__"]
        self.assertIn("__init__.py", names)
        for name in names:
            self.assertRegex(name, r"^[a-z0-9_]+\.py$")

    def test_signs_and_words(self):
        for _, text, _ in self.each():
            self.assertRegex(text, r"\A[\n -~]*\Z")
            self.assertNotIn("%", text)
            self.assertEqual(set(re.findall(r"\w+", text)) & WORDS, set())
            for word in ("dataclass", "overload", "contextmanager"):
                self.assertNotIn(word, text)

    def test_sizes(self):
        for _, text, tree in self.each():
            rows = text.split("\n")
            self.assertLessEqual(len(rows), 400)
            self.assertLessEqual(max(map(len, rows)), 120)
            for node in ast.walk(tree):
                if isinstance(node, ast.FunctionDef):
                    self.assertLessEqual(node.end_lineno - node.lineno + 1, 40, node.name)

    def test_no_warnings(self):
        for path, text, _ in self.each():
            with warnings.catch_warnings():
                warnings.simplefilter("error")
                compile(text, str(path), "exec")

    def test_imports_name_the_file_that_defines(self):
        for _, _, tree in self.each():
            for node in tree.body:
                if isinstance(node, ast.ImportFrom):
                    self.assertEqual(node.level, 0)
                    self.assertRegex(node.module, r"^nearcall\.[a-z_]+$")
                    source = HERE / (node.module.split(".")[1] + ".py")
                    defined = {name for one in ast.parse(source.read_text("utf-8")).body
                               if not isinstance(one, ast.ImportFrom) for name in bound_names(one)}
                    for alias in node.names:
                        self.assertIn(alias.name, defined)

    def test_no_files_import_one_another(self):
        needs = {path.stem: {node.module.split(".")[1] for node in tree.body if isinstance(node, ast.ImportFrom)}
                 for path, _, tree in self.each()}
        while needs:
            free = [name for name in needs if not needs[name] & set(needs)]
            self.assertNotEqual(free, [], needs)
            for name in free:
                del needs[name]

    def test_errors_are_made_where_they_are_raised(self):
        for _, _, tree in self.each():
            for node in ast.walk(tree):
                if isinstance(node, ast.Raise):
                    self.assertIsInstance(node.exc, ast.Call)
                    self.assertIsInstance(node.exc.func, ast.Name)
                    self.assertEqual(node.exc.keywords, [])

    def test_imports_stand_on_top(self):
        for _, _, tree in self.each():
            kinds = [isinstance(node, ast.ImportFrom) for node in tree.body[1:]]
            self.assertEqual(kinds, sorted(kinds, reverse=True))
            inner = [node for node in ast.walk(tree) if isinstance(node, ast.ImportFrom)]
            self.assertEqual(len(inner), sum(kinds))

    def test_module_level(self):
        for _, _, tree in self.each():
            names, functions = [], []
            for node in tree.body[1:]:
                self.assertIsInstance(node, (ast.ImportFrom, ast.FunctionDef, ast.ClassDef, ast.Assign))
                names += bound_names(node) if isinstance(node, ast.ImportFrom) else []
                names += [node.name] if isinstance(node, (ast.FunctionDef, ast.ClassDef)) else []
                functions += [node.name] if isinstance(node, ast.FunctionDef) else []
                if isinstance(node, ast.Assign):
                    self.check_plain(node.value, functions)
                    names += [target.id for target in node.targets]
            self.assertEqual(len(names), len(set(names)))

    def check_plain(self, node, functions):
        """A plain value, a power that is written out, or a dict of plain values and of functions above it."""
        if isinstance(node, ast.BinOp):
            self.assertIsInstance(node.op, ast.Pow)
            self.check_plain(node.left, functions)
            self.assertIn(ast.literal_eval(node.right), range(65))
        elif isinstance(node, ast.Dict):
            for key, value in zip(node.keys, node.values):
                self.check_plain(key, [])
                self.assertNotIsInstance(value, (ast.Dict, ast.List))
                self.check_plain(value, functions)
        elif isinstance(node, ast.Name):
            self.assertIn(node.id, functions)
        else:
            ast.literal_eval(node)

    def test_statements(self):
        for _, _, tree in self.each():
            for node in ast.walk(tree):
                self.assertNotIsInstance(node, BARRED)
                if isinstance(node, ast.Constant):
                    self.assertNotIsInstance(node.value, float)
                if isinstance(node, ast.FunctionDef):
                    self.assertEqual(node.args.posonlyargs, [])
                    self.assertEqual(node.decorator_list, [])
                if isinstance(node, ast.Compare) and isinstance(node.ops[0], (ast.Is, ast.IsNot)):
                    self.assertIn(getattr(node.comparators[0], "value", "?"), (None, True, False))

    def test_names(self):
        for _, _, tree in self.each():
            bound = bound_names(tree)
            for name in bound:
                self.assertTrue(not name.startswith("_") or name in DOUBLE, name)
                self.assertNotIn(name, NAMES)
                self.assertNotIn(name, dir(builtins))
            for node in ast.walk(tree):
                if isinstance(node, ast.Name) and isinstance(node.ctx, ast.Load) and node.id not in bound:
                    self.assertIn(node.id, BUILTINS)

    def test_parameters_do_not_hide_classes_or_imports(self):
        for _, _, tree in self.each():
            above = {name for node in tree.body if isinstance(node, ast.ImportFrom) for name in bound_names(node)}
            above |= {node.name for node in tree.body if isinstance(node, ast.ClassDef)}
            for node in ast.walk(tree):
                if isinstance(node, ast.arg):
                    self.assertNotIn(node.arg, above)
                if isinstance(node, ast.Name) and isinstance(node.ctx, ast.Store):
                    self.assertNotIn(node.id, above)

    def test_methods_and_attributes(self):
        trees = [ast.parse(path.read_text("utf-8")) for path in files()]
        nodes = [node for tree in trees for node in ast.walk(tree)]
        methods = {one.name for node in nodes if isinstance(node, ast.ClassDef)
                   for one in node.body if isinstance(one, ast.FunctionDef)}
        attributes = {node.attr for node in nodes
                      if isinstance(node, ast.Attribute) and isinstance(node.ctx, ast.Store)}
        self.assertEqual(methods & attributes, set())
        for node in nodes:
            if isinstance(node, ast.Attribute):
                self.assertIn(node.attr, methods | attributes | METHODS | {"__init__"})

    def test_no_generators_where_a_class_has_eq(self):
        for _, _, tree in self.each():
            for node in ast.walk(tree):
                if isinstance(node, ast.Call) and isinstance(node.func, ast.Name) and node.func.id in GREEDY:
                    for one in node.args:
                        self.assertNotIsInstance(one, ast.GeneratorExp)


if __name__ == "__main__":
    unittest.main()
