"""The form of the package's files: the part of Python that it keeps to, as far as can be seen by reading."""

import ast
import builtins
import pathlib
import re
import unittest

FOLDER = pathlib.Path(__file__).resolve().parent.parent / "wishdeal"
FILES = sorted(FOLDER.glob("*.py"))

OWN_NAMES = (
    "len range enumerate zip min max sum abs sorted reversed int str bool bytes list tuple dict set frozenset "
    "isinstance ord repr any all divmod Exception ValueError TypeError KeyError IndexError LookupError "
    "ZeroDivisionError ArithmeticError OverflowError RuntimeError NotImplementedError AttributeError StopIteration"
).split()
OWN_METHODS = (
    "append clear copy count endswith extend find get index insert isalnum isalpha isdigit islower isspace isupper "
    "items join keys ljust lower lstrip partition pop remove replace reverse rfind rjust rpartition rsplit rstrip "
    "setdefault split splitlines startswith strip update upper values zfill bit_length removeprefix removesuffix "
    "add discard sort __init__"
).split()
WORDS = (
    "type typing typing_extensions enum Enum IntEnum StrEnum Flag IntFlag Generic Protocol ABC ABCMeta namedtuple "
    "NamedTuple TypedDict TYPE_CHECKING abstractmethod"
).split()
UNUSED_NAMES = (
    "register mro elements open input version_info with_traceback add_note attrgetter breakpoint builtins compile "
    "copyright credits delattr dir eval exec exit gc getattr globals hasattr help id importlib license locals "
    "methodcaller os quit setattr super type vars sys __name__"
).split()
STATEMENTS = (
    ast.Module, ast.FunctionDef, ast.ClassDef, ast.arguments, ast.arg, ast.Assign, ast.AugAssign, ast.If, ast.While,
    ast.For, ast.Return, ast.Break, ast.Continue, ast.Pass, ast.Raise, ast.Try, ast.ExceptHandler, ast.Expr, ast.Assert,
    ast.Delete, ast.ImportFrom, ast.alias,
)
VALUES = (
    ast.Constant, ast.List, ast.Tuple, ast.Dict, ast.Set, ast.BinOp, ast.UnaryOp, ast.BoolOp, ast.Compare, ast.IfExp,
    ast.Call, ast.keyword, ast.Attribute, ast.Subscript, ast.Slice, ast.ListComp, ast.DictComp, ast.SetComp,
    ast.comprehension, ast.JoinedStr, ast.FormattedValue, ast.Lambda, ast.Name, ast.Load, ast.Store, ast.Del,
    ast.Starred, ast.And, ast.Or, ast.operator, ast.unaryop, ast.cmpop,
)


def trees():
    return [(path.name, ast.parse(path.read_text(encoding="utf-8"))) for path in FILES]


def nodes():
    return [(f"{name}:{getattr(node, 'lineno', 0)}", node) for name, tree in trees() for node in ast.walk(tree)]


def given_names(node):
    """Parameters, locals and defs that a node gives."""
    if isinstance(node, ast.arg):
        return [node.arg]
    if isinstance(node, ast.Name) and isinstance(node.ctx, ast.Store):
        return [node.id]
    if isinstance(node, (ast.FunctionDef, ast.ClassDef)):
        return [node.name]
    return []


def top_names(tree):
    """The names that a file defines at its top."""
    told = []
    for row in tree.body:
        if isinstance(row, (ast.FunctionDef, ast.ClassDef)):
            told.append(row.name)
        if isinstance(row, ast.Assign):
            told += [target.id for target in row.targets]
    return told


class Files(unittest.TestCase):
    def test_files_and_lines(self):
        self.assertTrue(FILES)
        for path in FOLDER.iterdir():
            self.assertTrue(path.suffix == ".py" or path.name == "__pycache__", path.name)
            self.assertTrue(path.name == "__pycache__" or re.fullmatch("[a-z0-9_]+.py", path.name), path.name)
        for path in FILES:
            text = path.read_bytes().decode("ascii")
            rows = text.split("\n")
            self.assertLessEqual(len(rows), 400, path.name)
            self.assertLessEqual(max(len(row) for row in rows), 120, path.name)
            self.assertTrue(all(sign == "\n" or " " <= sign <= "~" for sign in text), path.name)
            met = [word for word in re.findall(r"\w+", text)
                   if word in WORDS or re.search("dataclass|overload|contextmanager", word)]
            self.assertEqual(met, [], path.name)

    def test_functions_are_small(self):
        for where, node in nodes():
            if isinstance(node, ast.FunctionDef):
                self.assertLessEqual(node.end_lineno - node.lineno + 1, 40, where)

    def test_imports(self):
        tops = {name: top_names(tree) for name, tree in trees()}
        drawn = {name: [] for name in tops}
        for name, tree in trees():
            for row in tree.body:
                if isinstance(row, ast.ImportFrom):
                    self.assertEqual((row.level, row.module.split(".")[0]), (0, "wishdeal"), name)
                    source = row.module.split(".")[1] + ".py"
                    drawn[name].append(source)
                    for alias in row.names:
                        self.assertIn(alias.name, tops[source], name)
        while drawn:
            free = [name for name in drawn if not any(source in drawn for source in drawn[name])]
            self.assertTrue(free, f"files draw from one another: {sorted(drawn)}")
            drawn = {name: drawn[name] for name in drawn if name not in free}

    def test_tops_give_each_name_once(self):
        for name, tree in trees():
            given = top_names(tree)
            for row in tree.body:
                if isinstance(row, ast.ImportFrom):
                    given += [alias.asname or alias.name for alias in row.names]
            self.assertEqual(len(given), len(set(given)), name)


class Rows(unittest.TestCase):
    def test_only_what_the_language_has(self):
        for where, node in nodes():
            self.assertIsInstance(node, STATEMENTS + VALUES, where)
            self.assertNotIsInstance(node, (ast.Div, ast.MatMult), where)
            self.assertFalse(getattr(node, "decorator_list", []), where)
            if isinstance(node, ast.arguments):
                self.assertFalse(node.vararg or node.kwarg or node.posonlyargs, where)
            if isinstance(node, (ast.For, ast.While)):
                self.assertFalse(node.orelse, where)
            if isinstance(node, ast.Constant):
                self.assertIn(node.value.__class__, (int, str, bytes, bool, None.__class__), where)
                self.assertNotIn("%", str(node.value), where)

    def test_powers_are_written(self):
        for where, node in nodes():
            if isinstance(getattr(node, "op", None), ast.Pow):
                self.assertIsInstance(node.right, ast.Constant, where)
                self.assertIn(node.right.value, range(65), where)

    def test_is_stands_beside_none_and_truths(self):
        for where, node in nodes():
            if isinstance(node, ast.Compare):
                for sign, beside in zip(node.ops, node.comparators):
                    if isinstance(sign, (ast.Is, ast.IsNot)):
                        self.assertIsInstance(beside, ast.Constant, where)
                        self.assertIn(beside.value, (None, True, False), where)

    def test_no_error_is_taken_broadly(self):
        for where, node in nodes():
            if isinstance(node, ast.ExceptHandler):
                self.assertIsNotNone(node.type, where)
                self.assertNotIn(ast.unparse(node.type), ("Exception", "TypeError", "()"), where)


class Words(unittest.TestCase):
    def test_names_are_plain(self):
        for name, tree in trees():
            drawn = [alias.asname or alias.name for row in tree.body if isinstance(row, ast.ImportFrom)
                     for alias in row.names]
            for node in ast.walk(tree):
                for given in given_names(node):
                    where = f"{name}:{node.lineno} {given}"
                    self.assertTrue(given == "__init__" or re.fullmatch("[A-Za-z][A-Za-z0-9_]*", given), where)
                    self.assertNotIn(given, drawn + UNUSED_NAMES + dir(builtins), where)

    def test_python_s_own_names(self):
        for where, node in nodes():
            if isinstance(node, ast.Name) and node.id in dir(builtins):
                self.assertIn(node.id, OWN_NAMES, where)

    def test_methods_and_values(self):
        values = [node.attr for where, node in nodes()
                  if isinstance(node, ast.Attribute) and isinstance(node.ctx, ast.Store)]
        methods = [row.name for where, node in nodes() if isinstance(node, ast.ClassDef)
                   for row in node.body if isinstance(row, ast.FunctionDef)]
        self.assertEqual([name for name in values if name in methods], [])
        for where, node in nodes():
            if isinstance(node, ast.Attribute):
                self.assertIn(node.attr, OWN_METHODS + values + methods, where)

    def test_sets_are_asked_on_the_spot_or_kept_by_a_local(self):
        for where, node in nodes():
            for child in ast.iter_child_nodes(node):
                made = isinstance(child, ast.Call) and ast.unparse(child.func) == "set"
                if made or isinstance(child, (ast.Set, ast.SetComp)):
                    call = isinstance(node, ast.Call) and ast.unparse(node.func) in ("len", "sorted")
                    kept = isinstance(node, ast.Assign) and isinstance(node.targets[0], ast.Name)
                    self.assertTrue(call or kept or isinstance(node, (ast.Compare, ast.BinOp)), where)

    def test_walks_are_on_the_spot(self):
        for where, node in nodes():
            if isinstance(node, ast.Assign) and isinstance(node.value, ast.Call):
                made = ast.unparse(node.value.func).split(".")[-1]
                self.assertNotIn(made, ("zip", "range", "enumerate", "reversed", "items", "keys", "values"), where)


if __name__ == "__main__":
    unittest.main()
