"""The package's files against those rules of the language that can be seen row by row.

Not every rule is asked here, and none more narrowly than it is written.
"""

import ast
import builtins
import pathlib
import re
import unittest

PACKAGE = pathlib.Path(__file__).resolve().parent.parent / "trussyard"

# L6 and L7: the forms that may stand, by the names of Python's own syntax tree.
FORMS = set("""
Module FunctionDef ClassDef Assign AugAssign AnnAssign If While For Return Break Continue Pass Raise Try ExceptHandler
Expr Import ImportFrom alias arguments arg keyword Lambda Constant Name Attribute Subscript Slice List Tuple Dict Set
BinOp UnaryOp BoolOp Compare IfExp Call ListComp comprehension JoinedStr FormattedValue Load Store
Add Sub Mult FloorDiv Mod Pow BitAnd BitOr BitXor LShift RShift Invert USub UAdd Not And Or
Eq NotEq Lt LtE Gt GtE Is IsNot In NotIn
""".split())
# L8, less what L27 leaves out.
OWN_NAMES = set("""
len range enumerate zip min max sum abs sorted reversed int str bool list tuple dict set frozenset isinstance ord repr
any all divmod Exception ValueError TypeError KeyError IndexError LookupError ZeroDivisionError ArithmeticError
OverflowError RuntimeError NotImplementedError AttributeError StopIteration object float bytes
""".split())
# L25.
OWN_METHODS = set("""
append clear copy count endswith extend find get index insert isalnum isalpha isdigit islower isspace isupper items join
keys ljust lower lstrip partition pop remove replace reverse rfind rjust rpartition rsplit rstrip setdefault split
splitlines startswith strip update upper values zfill bit_length
""".split())
CHANGING = set("append clear extend insert pop remove reverse setdefault update".split())
# L26.
VALUES_LIKE_METHODS = set("count index title find get join lower upper split strip copy add".split())
TWO_UNDERSCORES = {"__init__", "__eq__", "__repr__", "__str__", "__len__"}
# L17.
WORDS_OUT = re.compile(
    r"\b(type|typing|typing_extensions|enum|Enum|IntEnum|StrEnum|Flag|IntFlag|Generic|Protocol|ABC|ABCMeta|namedtuple"
    r"|NamedTuple|TypedDict|TYPE_CHECKING|abstractmethod)\b|dataclass|overload|contextmanager")
PLAIN_NAME = re.compile(r"[a-zA-Z][a-zA-Z0-9_]*")


def package_files():
    return [path for path in sorted(PACKAGE.rglob("*")) if "__pycache__" not in path.parts and not path.is_dir()]


def trees():
    return [(path, ast.parse(path.read_text(encoding="utf-8"))) for path in package_files()]


def nodes():
    for path, tree in trees():
        for node in ast.walk(tree):
            yield f"{path.name}:{getattr(node, 'lineno', 0)}", node


def own_methods():
    return {deed.name for place, node in nodes() if isinstance(node, ast.ClassDef)
            for deed in node.body if isinstance(deed, ast.FunctionDef)}


def bound_names(node):
    """The names that this node itself binds."""
    if isinstance(node, (ast.FunctionDef, ast.ClassDef)):
        return [node.name]
    if isinstance(node, ast.arg):
        return [node.arg]
    if isinstance(node, ast.Name) and isinstance(node.ctx, ast.Store):
        return [node.id]
    if isinstance(node, ast.Attribute) and isinstance(node.ctx, ast.Store):
        return [node.attr]
    return []


def top_names(tree):
    """The names that the rows of a file's top bind, imports aside."""
    names = []
    for node in tree.body:
        if isinstance(node, (ast.FunctionDef, ast.ClassDef)):
            names.append(node.name)
        elif isinstance(node, ast.Assign):
            names.extend(target.id for target in node.targets if isinstance(target, ast.Name))
    return names


def imported(tree):
    """Rows (module, name) of all that a file draws from the package."""
    return [(node.module, name.name) for node in tree.body if isinstance(node, ast.ImportFrom)
            for name in node.names if node.module != "__future__"]


def is_plain(value, functions):
    """L3: a plain value, or a list, tuple or dict of plain values and functions; L15: not one within another."""
    if isinstance(value, ast.UnaryOp):
        return isinstance(value.op, ast.USub) and isinstance(value.operand, ast.Constant)
    if isinstance(value, ast.Tuple):
        return all(is_plain(one, functions) for one in value.elts)
    if isinstance(value, ast.Name):
        return value.id in functions
    return isinstance(value, ast.Constant)


def own_values():
    return {node.attr for place, node in nodes() if isinstance(node, ast.Attribute) and isinstance(node.ctx, ast.Store)}


def changed_in(loop):
    """The texts of all that a loop changes: by an index, or by a method that changes."""
    texts = []
    for node in ast.walk(loop):
        if isinstance(node, ast.Subscript) and isinstance(node.ctx, ast.Store):
            texts.append(ast.unparse(node.value))
        if isinstance(node, ast.Call) and isinstance(node.func, ast.Attribute) and node.func.attr in CHANGING:
            texts.append(ast.unparse(node.func.value))
    return texts


def is_walked(node, above):
    """L23: what stands here is walked on the spot."""
    if isinstance(above, (ast.For, ast.comprehension)):
        return above.iter is node
    if not isinstance(above, ast.Call) or not above.args or above.args[0] is not node:
        return False
    if isinstance(above.func, ast.Attribute):
        return above.func.attr == "join" and isinstance(above.func.value, ast.Constant)
    if above.func.id in ("min", "max"):
        return len(above.args) == 1
    return above.func.id in ("list", "tuple", "dict", "sorted", "sum", "any", "all", "enumerate", "zip")


class LanguageTest(unittest.TestCase):
    def test_files(self):
        self.assertIn("__init__.py", [path.name for path in package_files()])
        for path in package_files():
            with self.subTest(path.name):
                self.assertRegex(path.name, r"\A([a-z][a-z0-9_]*|__init__|__main__)\.py\Z")
                self.assertNotIn(path.stem, vars(builtins))

    def test_sizes_and_signs(self):
        for path in package_files():
            text = path.read_bytes().decode("utf-8")
            for number, row in enumerate(text.split("\n"), start=1):
                with self.subTest(f"{path.name}:{number}"):
                    self.assertLessEqual(len(row), 120)
                    self.assertTrue(all(" " <= sign <= "~" for sign in row))
                    self.assertIsNone(WORDS_OUT.search(row))
            with self.subTest(path.name):
                self.assertLessEqual(len(text.split("\n")), 401)
        for place, node in nodes():
            if isinstance(node, ast.FunctionDef):
                with self.subTest(place):
                    self.assertLessEqual(node.end_lineno - node.lineno + 1, 40)

    def test_imports(self):
        for path, tree in trees():
            for node in ast.walk(tree):
                with self.subTest(f"{path.name}:{getattr(node, 'lineno', 0)}"):
                    if isinstance(node, ast.Import):
                        self.assertEqual((path.name, [name.name for name in node.names]), ("__main__.py", ["sys"]))
                    if isinstance(node, ast.ImportFrom):
                        self.assertIn(node, tree.body)
                        self.assertRegex(node.module, r"\A(trussyard\.[a-z0-9_]+|__future__)\Z")
                        self.assertEqual(node.level, 0)
                        self.assertNotIn("*", [name.name for name in node.names])

    def test_forms(self):
        for place, node in nodes():
            with self.subTest(place):
                self.assertIn(node.__class__.__name__, FORMS)
                if isinstance(node, ast.Constant):
                    self.assertIsInstance(node.value, (int, str, type(None)))
                if isinstance(node, ast.Assign):
                    self.assertEqual(len(node.targets), 1)
                if isinstance(node, ast.ListComp):
                    self.assertEqual(len(node.generators), 1)
                    self.assertLessEqual(len(node.generators[0].ifs), 1)
                if isinstance(node, (ast.While, ast.For)):
                    self.assertEqual(node.orelse, [])
                if isinstance(node, ast.Try):
                    self.assertEqual(node.finalbody, [])
                if isinstance(node, (ast.FunctionDef, ast.ClassDef)):
                    self.assertEqual(node.decorator_list, [])
                if isinstance(node, ast.arguments):
                    self.assertEqual((node.vararg, node.kwarg, node.kwonlyargs), (None, None, []))

    def test_tops(self):
        allowed = (ast.Import, ast.ImportFrom, ast.FunctionDef, ast.ClassDef, ast.Assign)
        for path, tree in trees():
            with self.subTest(path.name):
                self.assertIsNotNone(ast.get_docstring(tree))
                if path.name != "__main__.py":
                    self.assertTrue(all(isinstance(node, allowed) for node in tree.body[1:]))

    def test_names(self):
        python_s = set(vars(builtins))
        for place, node in nodes():
            with self.subTest(place):
                for name in bound_names(node):
                    if name not in TWO_UNDERSCORES:
                        self.assertRegex(name, r"\A" + PLAIN_NAME.pattern + r"\Z")
                        self.assertFalse(name in python_s and not isinstance(node, (ast.Attribute, ast.FunctionDef)))
                if isinstance(node, ast.Name) and node.id in python_s and not place.startswith("__main__"):
                    self.assertIn(node.id, OWN_NAMES)

    def test_methods(self):
        known = OWN_METHODS | own_methods() | TWO_UNDERSCORES
        for place, node in nodes():
            if isinstance(node, ast.Call) and isinstance(node.func, ast.Attribute):
                if not place.startswith("__main__"):
                    with self.subTest(place):
                        self.assertIn(node.func.attr, known)

    def test_values_of_the_top(self):
        for path, tree in trees():
            functions = {node.name for node in tree.body if isinstance(node, ast.FunctionDef)}
            for node in tree.body:
                if isinstance(node, ast.Assign):
                    parts = [node.value]
                    if isinstance(node.value, ast.List):
                        parts = node.value.elts
                    if isinstance(node.value, ast.Dict):
                        parts = node.value.keys + node.value.values
                    with self.subTest(f"{path.name}:{node.lineno}"):
                        self.assertTrue(all(is_plain(part, functions) for part in parts))

    def test_names_once(self):
        for path, tree in trees():
            drawn = [name for module, name in imported(tree)]
            names = drawn + top_names(tree)
            classes = [node.name for node in tree.body if isinstance(node, ast.ClassDef)]
            with self.subTest(path.name):
                self.assertEqual(len(names), len(set(names)))
            for node in ast.walk(tree):
                if isinstance(node, (ast.Name, ast.arg)):
                    with self.subTest(f"{path.name}:{node.lineno}"):
                        self.assertEqual(set(bound_names(node)) & set(drawn + classes), set())

    def test_names_are_drawn_from_where_they_are_defined(self):
        defined = {f"trussyard.{path.stem}": top_names(tree) for path, tree in trees()}
        for path, tree in trees():
            for module, name in imported(tree):
                with self.subTest(path.name, name=name):
                    self.assertIn(name, defined[module])

    def test_every_import_is_used(self):
        for path, tree in trees():
            used = {node.id for node in ast.walk(tree) if isinstance(node, ast.Name)}
            for module, name in imported(tree):
                with self.subTest(path.name, name=name):
                    self.assertIn(name, used)

    def test_no_files_draw_from_one_another(self):
        draws = {f"trussyard.{path.stem}": {module for module, name in imported(tree)} for path, tree in trees()}
        while draws:
            bare = [module for module in draws if not draws[module] & set(draws)]
            self.assertNotEqual(bare, [], f"these draw from one another: {sorted(draws)}")
            draws = {module: below for module, below in draws.items() if module not in bare}

    def test_is(self):
        for place, node in nodes():
            if isinstance(node, ast.Compare) and any(isinstance(sign, (ast.Is, ast.IsNot)) for sign in node.ops):
                with self.subTest(place):
                    self.assertTrue(any(isinstance(one, ast.Constant) and one.value in (None, True, False)
                                        for one in [node.left] + node.comparators))

    def test_walked_at_once(self):
        for path, tree in trees():
            for above in ast.walk(tree):
                for node in ast.iter_child_nodes(above):
                    if isinstance(node, ast.Call):
                        name = node.func.attr if isinstance(node.func, ast.Attribute) else node.func.id
                        if name in ("zip", "enumerate", "reversed", "range", "items", "keys", "values"):
                            with self.subTest(f"{path.name}:{node.lineno}"):
                                self.assertTrue(is_walked(node, above))

    def test_no_name_is_a_method_and_a_value(self):
        self.assertEqual(own_values() & own_methods(), set())

    def test_methods_and_values_are_not_called_like_python_s(self):
        python_s = {name for kind in (str, int, list, tuple, dict, set, frozenset, bytes) for name in dir(kind)}
        self.assertEqual(own_methods() & python_s - OWN_METHODS - TWO_UNDERSCORES - {"add", "discard"}, set())
        self.assertEqual(own_values() & python_s - VALUES_LIKE_METHODS, set())

    def test_numbers_and_texts(self):
        for place, node in nodes():
            with self.subTest(place):
                if isinstance(node, ast.Constant) and isinstance(node.value, str):
                    self.assertNotIn("%", node.value)
                if isinstance(node, ast.BinOp) and isinstance(node.op, ast.Pow):
                    self.assertIsInstance(node.right, ast.Constant)
                    self.assertLessEqual(node.right.value, 64)

    def test_handlers(self):
        """Python's own errors that are not to be taken; the program's own may be."""
        for place, node in nodes():
            if isinstance(node, ast.ExceptHandler):
                with self.subTest(place):
                    names = {part.id for part in ast.walk(node.type) if isinstance(part, ast.Name)}
                    self.assertEqual(names & {"Exception", "TypeError"}, set())

    def test_what_is_walked_is_not_changed(self):
        for place, node in nodes():
            if isinstance(node, ast.For):
                walked = node.iter
                if isinstance(walked, ast.Call) and isinstance(walked.func, ast.Attribute) and not walked.args:
                    walked = walked.func.value
                with self.subTest(place):
                    self.assertNotIn(ast.unparse(walked), changed_in(node))


if __name__ == "__main__":
    unittest.main()
