"""The form of the package's own files: the rules that a look at the tree of a file can tell."""

import ast
import builtins
import pathlib
import re
import unittest

PACKAGE = pathlib.Path(__file__).resolve().parent.parent / "shiftmeet"

CALLED = set("""
    len range enumerate zip min max sum abs sorted reversed int str bool list tuple dict set frozenset isinstance
    ord repr any all divmod Exception ValueError TypeError KeyError IndexError LookupError ZeroDivisionError
    ArithmeticError OverflowError RuntimeError NotImplementedError AttributeError StopIteration
""".split())

METHODS = set("""
    append clear copy count endswith extend find get index insert isalnum isalpha isdigit islower isspace isupper
    items join keys ljust lower lstrip partition pop remove replace reverse rfind rjust rpartition rsplit rstrip
    setdefault split splitlines startswith strip update upper values zfill bit_length
""".split())

WORDS = re.compile(
    r"\b(type|typing|typing_extensions|enum|Enum|IntEnum|StrEnum|Flag|IntFlag|Generic|Protocol|ABC|ABCMeta"
    r"|namedtuple|NamedTuple|TypedDict|TYPE_CHECKING|abstractmethod)\b|dataclass|overload|contextmanager")

OUT = (
    ast.With, ast.Match, ast.Delete, ast.Global, ast.Nonlocal, ast.Assert, ast.Yield, ast.YieldFrom, ast.Await,
    ast.AsyncFor, ast.AsyncFunctionDef, ast.AsyncWith, ast.Div, ast.SetComp, ast.DictComp, ast.GeneratorExp,
    ast.NamedExpr, ast.Starred, ast.Import, ast.AnnAssign)


def files():
    return sorted(path for path in PACKAGE.rglob("*") if path.is_file() and "__pycache__" not in path.parts)


def trees():
    return [(path, ast.parse(path.read_text("utf-8"))) for path in files()]


def nodes(*kinds):
    return [(path, node) for path, tree in trees() for node in ast.walk(tree) if isinstance(node, kinds)]


def imported(tree):
    return [alias.name for node in tree.body if isinstance(node, ast.ImportFrom) for alias in node.names]


def drawn_from(tree):
    return {node.module for node in tree.body if isinstance(node, ast.ImportFrom)}


def defined(tree):
    names = [node.name for node in tree.body if isinstance(node, (ast.FunctionDef, ast.ClassDef))]
    assigned = [node for node in tree.body if isinstance(node, ast.Assign)]
    return names + [target.id for node in assigned for target in node.targets]


class Language(unittest.TestCase):
    def test_files_and_signs(self):
        self.assertIn(PACKAGE / "__init__.py", files())
        for path in files():
            self.assertRegex(path.name, r"^([a-z][a-z0-9_]*|__init__|__main__)\.py$")
            text = path.read_text("utf-8")
            rows = text.split("\n")
            self.assertLessEqual(len(rows), 401, path)
            for number, row in enumerate(rows, start=1):
                self.assertRegex(row, r"^[ -~]{0,120}$", f"{path}:{number}")
                self.assertIsNone(WORDS.search(row), f"{path}:{number}")

    def test_functions_are_short_and_plain(self):
        for path, node in nodes(ast.FunctionDef):
            place = f"{path}:{node.lineno}"
            self.assertLessEqual(node.end_lineno - node.lineno + 1, 40, place)
            self.assertEqual(node.decorator_list, [], place)
            self.assertIsNone(node.args.vararg, place)
            self.assertIsNone(node.args.kwarg, place)
            self.assertEqual(node.args.kwonlyargs, [], place)

    def test_only_the_package_itself_is_imported(self):
        for path, node in nodes(ast.ImportFrom):
            self.assertEqual(node.level, 0, path)
            self.assertTrue(node.module.startswith("shiftmeet."), path)

    def test_no_statement_or_value_that_is_out(self):
        for path, node in nodes(*OUT):
            self.fail(f"{path}:{node.lineno}: {type(node).__name__}")
        for path, node in nodes(ast.For, ast.While):
            self.assertEqual(node.orelse, [], f"{path}:{node.lineno}")
        for path, node in nodes(ast.Try):
            self.assertEqual(node.finalbody, [], f"{path}:{node.lineno}")
        for path, node in nodes(ast.Assign):
            self.assertEqual(len(node.targets), 1, f"{path}:{node.lineno}")
        for path, node in nodes(ast.Constant):
            self.assertNotIsInstance(node.value, (float, complex, bytes), f"{path}:{node.lineno}")

    def test_names(self):
        own = dir(builtins)
        for path, node in nodes(ast.Name):
            place = f"{path}:{node.lineno}: {node.id}"
            self.assertRegex(node.id, r"^[A-Za-z]", place)
            if node.id in own:
                self.assertIn(node.id, CALLED, place)
                self.assertIsInstance(node.ctx, ast.Load, place)
        for path, node in nodes(ast.arg):
            self.assertNotIn(node.arg, own, path)

    def test_methods_of_python_s_own_values(self):
        own = {name for kind in (str, int, list, tuple, dict, set, bytes) for name in dir(kind)}
        for path, node in nodes(ast.Attribute):
            if node.attr in own:
                self.assertIn(node.attr, METHODS | {"add", "__init__"}, f"{path}:{node.lineno}")

    def test_names_at_a_file_s_top_are_bound_once(self):
        for path, tree in trees():
            names = imported(tree) + defined(tree)
            self.assertEqual(len(names), len(set(names)), path)

    def test_no_local_is_called_like_an_import_or_a_class(self):
        for path, tree in trees():
            taken = imported(tree) + [node.name for node in tree.body if isinstance(node, ast.ClassDef)]
            for node in ast.walk(tree):
                if isinstance(node, ast.Name) and isinstance(node.ctx, ast.Store):
                    self.assertNotIn(node.id, taken, f"{path}:{node.lineno}")
                if isinstance(node, ast.arg):
                    self.assertNotIn(node.arg, taken, f"{path}:{node.lineno}")

    def test_each_import_is_from_the_file_that_defines_it(self):
        own = {"shiftmeet." + path.stem: defined(tree) for path, tree in trees()}
        for path, node in nodes(ast.ImportFrom):
            for alias in node.names:
                self.assertIn(alias.name, own[node.module], path)
                self.assertIsNone(alias.asname, path)

    def test_no_two_files_draw_from_one_another(self):
        left = {"shiftmeet." + path.stem: drawn_from(tree) for path, tree in trees()}
        while left:
            done = [name for name in left if not left[name] & set(left)]
            self.assertNotEqual(done, [], sorted(left))
            for name in done:
                left.pop(name)

    def test_comprehensions_and_f_strings_are_plain(self):
        for path, node in nodes(ast.ListComp):
            self.assertEqual(len(node.generators), 1, f"{path}:{node.lineno}")
            self.assertLessEqual(len(node.generators[0].ifs), 1, f"{path}:{node.lineno}")
        for path, node in nodes(ast.FormattedValue):
            self.assertIsInstance(node.value, ast.Name, f"{path}:{node.lineno}")
            self.assertIsNone(node.format_spec, f"{path}:{node.lineno}")

    def test_errors_are_taken_by_the_program_s_own_names(self):
        own = defined(ast.parse((PACKAGE / "errors.py").read_text("utf-8")))
        for path, node in nodes(ast.ExceptHandler):
            self.assertIsInstance(node.type, ast.Name, f"{path}:{node.lineno}")
            self.assertIn(node.type.id, own, f"{path}:{node.lineno}")
        for path, node in nodes(ast.Raise):
            self.assertIsInstance(node.exc, ast.Call, f"{path}:{node.lineno}")
            self.assertIn(node.exc.func.id, own, f"{path}:{node.lineno}")

    def test_classes(self):
        methods, values = [], []
        for path, node in nodes(ast.ClassDef):
            place = f"{path}:{node.lineno}"
            self.assertLessEqual(len(node.bases), 1, place)
            self.assertEqual((node.keywords, node.decorator_list), ([], []), place)
            for part in node.body:
                self.assertIsInstance(part, (ast.FunctionDef, ast.Pass), place)
            names = [part.name for part in node.body if isinstance(part, ast.FunctionDef)]
            self.assertEqual(len(names), len(set(names)), place)
            methods += names
            values += [part.attr for part in ast.walk(node)
                       if isinstance(part, ast.Attribute) and isinstance(part.ctx, ast.Store)]
        self.assertEqual(set(methods) & set(values), set())
        for name in methods + values:
            self.assertRegex(name, r"^([a-z][a-z0-9_]*|__init__)$")

    def test_lists_and_dicts_of_a_file_s_top_hold_no_list_or_dict(self):
        for path, tree in trees():
            for node in [part.value for part in tree.body if isinstance(part, ast.Assign)]:
                self.assertIsInstance(node, (ast.Constant, ast.Tuple, ast.List, ast.Dict), f"{path}:{node.lineno}")
                within = [part for part in ast.walk(node) if part is not node]
                for part in within:
                    self.assertNotIsInstance(part, (ast.List, ast.Dict, ast.Set, ast.Call), f"{path}:{node.lineno}")

    def test_is_stands_beside_none_true_and_false_alone(self):
        for path, node in nodes(ast.Compare):
            for kind, right in zip(node.ops, node.comparators):
                if isinstance(kind, (ast.Is, ast.IsNot)):
                    self.assertIsInstance(right, ast.Constant, f"{path}:{node.lineno}")
                    self.assertIn(right.value, (None, True, False), f"{path}:{node.lineno}")


if __name__ == "__main__":
    unittest.main()
