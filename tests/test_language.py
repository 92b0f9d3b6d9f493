"""The rules of LANGUAGE.md that can be seen in a file by itself, for each file of the package."""

import ast
import builtins
import os
import unittest

FOLDER = os.path.join(os.path.dirname(os.path.dirname(os.path.abspath(__file__))), "raisedwreck")

BUILTINS = set("""len range enumerate zip min max sum abs sorted reversed int str bool bytes list tuple dict set
frozenset isinstance ord repr any all divmod pow getattr hasattr setattr iter next map super property Exception
ValueError TypeError KeyError IndexError LookupError ZeroDivisionError ArithmeticError OverflowError RuntimeError
NotImplementedError AttributeError StopIteration NotImplemented""".split())

METHODS = set("""append clear copy count endswith extend find get index insert isalnum isalpha isdigit islower
isspace isupper items join keys ljust lower lstrip partition pop remove replace reverse rfind rjust rpartition rsplit
rstrip setdefault split splitlines startswith strip update upper values zfill bit_length add discard __init__""".split())

BARRED_NAMES = set("""register mro elements open input law version_info with_traceback add_note attrgetter breakpoint
compile copyright credits delattr dir eval exec exit gc globals help id importlib license locals methodcaller os quit
type vars sys""".split())

STATEMENTS = (ast.FunctionDef, ast.ClassDef, ast.Return, ast.Delete, ast.Assign, ast.AugAssign, ast.For, ast.While,
              ast.If, ast.Raise, ast.Try, ast.Assert, ast.ImportFrom, ast.Expr, ast.Pass, ast.Break, ast.Continue,
              ast.Nonlocal, ast.Match, ast.With)


def sources():
    for name in sorted(os.listdir(FOLDER)):
        if name != "__pycache__":
            with open(os.path.join(FOLDER, name), encoding="utf-8", newline="") as file:
                yield name, file.read()


def own_methods(trees):
    return {item.name for tree in trees for node in ast.walk(tree) if isinstance(node, ast.ClassDef)
            for item in node.body if isinstance(item, ast.FunctionDef)}


def bound_names(tree):
    for node in ast.walk(tree):
        if isinstance(node, (ast.FunctionDef, ast.ClassDef)):
            yield node.name
        elif isinstance(node, ast.Name) and isinstance(node.ctx, ast.Store):
            yield node.id
        elif isinstance(node, ast.arg):
            yield node.arg


class Language(unittest.TestCase):
    def setUp(self):
        self.texts = list(sources())
        self.trees = [(name, ast.parse(text)) for name, text in self.texts]

    def test_files(self):
        self.assertIn("__init__.py", [name for name, _ in self.texts])
        for name, text in self.texts:
            with self.subTest(name):
                self.assertRegex(name, r"^[a-z_][a-z0-9_]*\.py$")
                self.assertTrue(all(" " <= letter <= "~" or letter == "\n" for letter in text))
                self.assertLess(text.count("\n"), 400)
                self.assertTrue(all(len(line) <= 120 for line in text.split("\n")))

    def test_modules_assign_plain_values_once(self):
        for name, tree in self.trees:
            assigned = [node for node in tree.body if isinstance(node, ast.Assign)]
            targets = [ast.unparse(target) for node in assigned for target in node.targets]
            self.assertEqual(len(targets), len(set(targets)), name)
            self.assertTrue(all(target.isidentifier() for target in targets), name)
            for node in assigned:
                self.assertIsInstance(node.value, (ast.Constant, ast.Dict), (name, node.lineno))
            others = [node for node in tree.body if node not in assigned]
            allowed = (ast.FunctionDef, ast.ClassDef, ast.ImportFrom, ast.Expr)
            self.assertTrue(all(isinstance(node, allowed) for node in others), name)

    def test_functions_are_short(self):
        for name, tree in self.trees:
            for node in ast.walk(tree):
                if isinstance(node, ast.FunctionDef):
                    self.assertLessEqual(node.end_lineno - node.lineno + 1, 40, (name, node.name))

    def test_imports_come_from_the_file_that_defines_the_name(self):
        defined = {}
        for name, tree in self.trees:
            defined["raisedwreck." + name[:-3]] = set(bound_names(ast.Module(tree.body, [])))
        for name, tree in self.trees:
            for node in ast.walk(tree):
                self.assertNotIsInstance(node, ast.Import)
                if isinstance(node, ast.ImportFrom):
                    for alias in node.names:
                        self.assertIn(alias.name, defined[node.module], name)

    def test_no_variable_has_the_name_of_a_class_or_an_import_of_its_file(self):
        for name, tree in self.trees:
            taken = {node.name for node in tree.body if isinstance(node, ast.ClassDef)}
            taken |= {alias.name for node in ast.walk(tree) if isinstance(node, ast.ImportFrom) for alias in node.names}
            variables = [node.id for node in ast.walk(tree) if isinstance(node, ast.Name)
                         and isinstance(node.ctx, ast.Store)]
            variables += [node.arg for node in ast.walk(tree) if isinstance(node, ast.arg)]
            self.assertFalse(taken & set(variables), name)

    def test_statements_and_builtins(self):
        for name, tree in self.trees:
            names = set(bound_names(tree))
            self.assertFalse(names & set(dir(builtins)), name)
            self.assertFalse(names & BARRED_NAMES, name)
            for node in ast.walk(tree):
                if isinstance(node, ast.stmt):
                    self.assertIsInstance(node, STATEMENTS, (name, node.lineno))
                if isinstance(node, ast.Name) and hasattr(builtins, node.id):
                    self.assertIn(node.id, BUILTINS, (name, node.lineno))
                if isinstance(node, (ast.BinOp, ast.AugAssign)):
                    self.assertNotIsInstance(node.op, (ast.Div, ast.MatMult), (name, node.lineno))

    def test_methods(self):
        allowed = METHODS | own_methods([tree for _, tree in self.trees])
        for name, tree in self.trees:
            for node in ast.walk(tree):
                if isinstance(node, ast.Call) and isinstance(node.func, ast.Attribute):
                    self.assertIn(node.func.attr, allowed, (name, node.lineno))

    def test_any_and_all_take_lists_because_a_class_compares(self):
        for name, tree in self.trees:
            for node in ast.walk(tree):
                self.assertNotIsInstance(node, (ast.GeneratorExp, ast.Yield, ast.Global, ast.AsyncFunctionDef), name)

    def test_strings(self):
        for name, tree in self.trees:
            for node in ast.walk(tree):
                if isinstance(node, ast.Constant) and isinstance(node.value, str):
                    self.assertNotIn("%", node.value, (name, node.lineno))
                    self.assertNotIn("__", node.value, (name, node.lineno))


if __name__ == "__main__":
    unittest.main()
