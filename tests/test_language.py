"""The package keeps to the rules of its language, as far as a look at its files can tell."""

import ast
import builtins
import pathlib
import re
import unittest

PACKAGE = pathlib.Path(__file__).resolve().parent.parent / "besttelling"
BARRED_WORDS = (
    "type typing typing_extensions enum Enum IntEnum StrEnum Flag IntFlag Generic Protocol ABC ABCMeta namedtuple "
    "NamedTuple TypedDict TYPE_CHECKING abstractmethod"
).split()
BARRED_WITHIN = ["dataclass", "overload", "contextmanager"]
BUILTINS = (
    "len range enumerate zip min max sum abs sorted reversed int str bool bytes list tuple dict set frozenset isinstance "
    "ord repr any all divmod iter next Exception ValueError TypeError KeyError IndexError LookupError ZeroDivisionError "
    "ArithmeticError OverflowError RuntimeError NotImplementedError AttributeError StopIteration NotImplemented super "
    "property staticmethod classmethod"
).split()
SPECIAL = "__init__ __eq__ __repr__ __str__ __len__ __enter__ __exit__ __call__ __iter__".split()
BARRED_NODES = (
    ast.Global, ast.AsyncFunctionDef, ast.AsyncFor, ast.AsyncWith, ast.Await, ast.Import, ast.Div, ast.MatMult,
)


def files():
    return sorted(PACKAGE.rglob("*.py"))


def trees():
    return [(path.name, ast.parse(path.read_text())) for path in files()]


def nodes(kind):
    return [(name, node) for name, tree in trees() for node in ast.walk(tree) if isinstance(node, kind)]


class Language(unittest.TestCase):
    def test_folder_holds_plain_files_only(self):
        self.assertTrue(files())
        for path in PACKAGE.rglob("*"):
            if "__pycache__" not in path.parts:
                self.assertRegex(path.name, r"\A(__init__|[a-z][a-z0-9_]*)\.py\Z")

    def test_signs_and_sizes(self):
        for path in files():
            text = path.read_text()
            self.assertRegex(text, r"\A[ -~\n]*\Z", path.name)
            self.assertLessEqual(len(text.splitlines()), 400)
            for line in text.splitlines():
                self.assertLessEqual(len(line), 120, (path.name, line))
        for name, node in nodes(ast.FunctionDef):
            self.assertLessEqual(node.end_lineno - node.lineno + 1, 40, (name, node.name))

    def test_barred_words(self):
        for path in files():
            text = path.read_text()
            found = set(re.findall(r"[A-Za-z0-9_]+", text))
            self.assertEqual(found & set(BARRED_WORDS), set(), path.name)
            for word in BARRED_WITHIN:
                self.assertNotIn(word, text)

    def test_barred_statements_and_signs(self):
        self.assertEqual(nodes(BARRED_NODES), [])
        for name, node in nodes(ast.Constant):
            self.assertNotIsInstance(node.value, (float, complex), name)
            if isinstance(node.value, str):
                self.assertNotIn("%", node.value, name)
        for name, node in nodes(ast.Compare):
            for sign, behind in zip(node.ops, node.comparators):
                if isinstance(sign, (ast.Is, ast.IsNot)):
                    self.assertIn(getattr(behind, "value", "no constant"), (None, True, False), name)

    def test_imports_name_the_file_that_defines(self):
        defined = {}
        for name, tree in trees():
            module = "besttelling." + name.removesuffix(".py")
            defined[module] = [getattr(node, "name", None) for node in tree.body]
            defined[module] += [node.targets[0].id for node in tree.body if isinstance(node, ast.Assign)]
        for name, node in nodes(ast.ImportFrom):
            self.assertEqual(node.level, 0)
            for alias in node.names:
                self.assertIn(alias.name, defined[node.module], name)

    def test_imports_go_round_nowhere_and_are_all_used(self):
        imported = {}
        for name, tree in trees():
            froms = [node for node in ast.walk(tree) if isinstance(node, ast.ImportFrom)]
            imported["besttelling." + name.removesuffix(".py")] = {node.module for node in froms}
            read = {node.id for node in ast.walk(tree) if isinstance(node, ast.Name)}
            self.assertEqual({alias.name for node in froms for alias in node.names} - read, set(), name)
        while imported:
            free = [module for module, needed in imported.items() if not needed & set(imported)]
            self.assertTrue(free, sorted(imported))
            for module in free:
                del imported[module]

    def test_builtins(self):
        for name, node in nodes(ast.Name):
            if hasattr(builtins, node.id):
                self.assertIn(node.id, BUILTINS, name)
                self.assertIsInstance(node.ctx, ast.Load, (name, node.id))
        for name, node in nodes(ast.arg):
            self.assertFalse(hasattr(builtins, node.arg), (name, node.arg))

    def test_names(self):
        for name, node in nodes((ast.FunctionDef, ast.ClassDef)):
            if node.name.startswith("_"):
                self.assertIn(node.name, SPECIAL, name)
        for name, node in nodes(ast.Name):
            self.assertFalse(node.id.startswith("_"), (name, node.id))
        for name, node in nodes(ast.Attribute):
            if node.attr.startswith("_"):
                self.assertEqual(node.attr, "__init__", name)

    def test_no_name_is_a_method_and_an_attribute(self):
        methods = {node.name for _, holder in nodes(ast.ClassDef) for node in holder.body
                   if isinstance(node, ast.FunctionDef)}
        attributes = {node.attr for _, node in nodes(ast.Attribute) if isinstance(node.ctx, ast.Store)}
        self.assertEqual(methods & attributes, set())

    def test_no_local_name_is_an_import_or_a_class_of_its_file(self):
        for name, tree in trees():
            barred = {alias.asname or alias.name for node in ast.walk(tree) if isinstance(node, ast.ImportFrom)
                      for alias in node.names}
            barred |= {node.name for node in tree.body if isinstance(node, ast.ClassDef)}
            bound = {node.arg for node in ast.walk(tree) if isinstance(node, ast.arg)}
            bound |= {node.id for node in ast.walk(tree) if isinstance(node, ast.Name) and isinstance(node.ctx, ast.Store)}
            self.assertEqual(barred & bound, set(), name)

    def test_any_and_its_kin_take_lists(self):
        self.assertEqual([name for name, node in nodes(ast.GeneratorExp)], [])


if __name__ == "__main__":
    unittest.main()
