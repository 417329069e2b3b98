"""Holds the package's files against the rules of the language that can be seen in a file's text or tree.

The numbers L1 to L28 are those of the rules. What a tree can't show is left to the reader.
"""

import ast
import builtins
import pathlib
import re
import unittest

PACKAGE = pathlib.Path(__file__).resolve().parent.parent / "formkin"
FILES = sorted(PACKAGE.rglob("*.py"))

ERRORS = set("""Exception ValueError TypeError KeyError IndexError LookupError ZeroDivisionError ArithmeticError
    OverflowError RuntimeError NotImplementedError AttributeError StopIteration""".split())
CALLED = set("""len range enumerate zip min max sum abs sorted reversed int str bool list tuple dict set frozenset
    isinstance ord repr any all divmod""".split())
METHODS = set("""append clear copy count endswith extend find get index insert isalnum isalpha isdigit islower isspace
    isupper items join keys ljust lower lstrip partition pop remove replace reverse rfind rjust rpartition rsplit rstrip
    setdefault split splitlines startswith strip update upper values zfill bit_length""".split())
DUNDERS = {"__init__", "__eq__", "__repr__", "__str__", "__len__"}
NOT_USED = set("register mro elements open input version_info with_traceback add_note format format_map".split())
NOT_NAMES = set("""attrgetter breakpoint builtins compile copyright credits delattr dir eval exec exit gc getattr globals
    hasattr help id importlib license locals methodcaller os quit setattr super type vars sys""".split())
KEYWORDS = {"sorted": {"key", "reverse"}, "min": {"key", "default"}, "max": {"key", "default"}, "sum": {"start"},
    "enumerate": {"start"}, "zip": {"strict"}}
WALKED = {"zip", "enumerate", "reversed", "range", "items", "keys", "values"}
WALKERS = {"list", "tuple", "dict", "sorted", "sum", "any", "all", "enumerate", "zip", "min", "max", "join"}
NO_WORDS = set("""type typing typing_extensions enum Enum IntEnum StrEnum Flag IntFlag Generic Protocol ABC ABCMeta
    namedtuple NamedTuple TypedDict TYPE_CHECKING abstractmethod""".split())
NOT_WITHIN = ["dataclass", "overload", "contextmanager"]

STATEMENTS = (
    ast.FunctionDef, ast.ClassDef, ast.ImportFrom, ast.Assign, ast.AugAssign, ast.If, ast.While, ast.For, ast.Return,
    ast.Break, ast.Continue, ast.Pass, ast.Raise, ast.Try, ast.Expr,
)
EXPRESSIONS = (
    ast.BoolOp, ast.BinOp, ast.UnaryOp, ast.Lambda, ast.IfExp, ast.Dict, ast.Set, ast.ListComp, ast.Compare, ast.Call,
    ast.FormattedValue, ast.JoinedStr, ast.Constant, ast.Attribute, ast.Subscript, ast.Name, ast.List, ast.Tuple,
    ast.Slice,
)
VALUES = set("count index title find get join lower upper split strip copy add".split())
PYTHONS_OWN = {name for kind in (str, int, list, dict, set, bytes) for name in dir(kind) if not name.startswith("__")}


def nodes(path):
    return list(ast.walk(ast.parse(path.read_text())))


def strings(tree_nodes):
    return [node for node in tree_nodes if isinstance(node, ast.Constant) and isinstance(node.value, str)]


def own_methods():
    found = set()
    for path in FILES:
        for node in nodes(path):
            if isinstance(node, ast.ClassDef):
                found.update(part.name for part in node.body if isinstance(part, ast.FunctionDef))
    return found


def bound_names(tree_nodes):
    """Every name that a file binds or stores, with the node."""
    for node in tree_nodes:
        if isinstance(node, (ast.FunctionDef, ast.ClassDef)):
            yield node.name, node
        elif isinstance(node, ast.arg):
            yield node.arg, node
        elif isinstance(node, ast.Name) and isinstance(node.ctx, ast.Store):
            yield node.id, node
        elif isinstance(node, ast.ExceptHandler) and node.name:
            yield node.name, node


def called(node):
    """The name by which something is called, or None."""
    if not isinstance(node, ast.Call):
        return None
    return node.func.id if isinstance(node.func, ast.Name) else getattr(node.func, "attr", None)


def within(name, node):
    """What stands where a rule lets a class, a walk or a set stand, by the name of what is looked for."""
    if name == "class" and isinstance(node, ast.ClassDef):
        return node.bases
    if name == "class" and isinstance(node, ast.ExceptHandler):
        return [node.type]
    if name == "class" and isinstance(node, ast.Attribute) and node.attr == "__init__":
        return [node.value]
    if name == "class" and isinstance(node, ast.Call):
        return [node.func] + (node.args[1:] if called(node) == "isinstance" else [])
    if name == "walk" and isinstance(node, (ast.For, ast.comprehension)):
        return [node.iter]
    if name == "walk" and called(node) in WALKERS:
        return node.args
    if name == "set" and called(node) in ("sorted", "len"):
        return node.args
    if name == "set" and isinstance(node, ast.Compare):
        return [node.left] + node.comparators
    return []


def let_by(name, tree_nodes):
    """Those nodes that stand where a rule lets such a thing stand."""
    found = [part for node in tree_nodes for part in within(name, node)]
    return found + [part for node in found if isinstance(node, ast.Tuple) for part in node.elts]


def of_each_file(test):
    def run(self):
        for path in FILES:
            with self.subTest(path.name):
                test(self, path)
    return run


class Language(unittest.TestCase):
    def test_there_are_files(self):
        self.assertIn(PACKAGE / "__init__.py", FILES)

    def test_files_and_their_names(self):
        for path in PACKAGE.rglob("*"):
            if "__pycache__" not in path.parts:
                self.assertRegex(path.name, r"^([a-z][a-z0-9_]*|__init__|__main__)\.py$", "L1, L14")
                self.assertNotIn(path.stem, dir(builtins), "L14")

    @of_each_file
    def test_signs_and_sizes(self, path):
        text = path.read_bytes().decode("utf-8")
        self.assertRegex(text, r"\A[ -~\n]*\Z", "L10, L14")
        lines = text.split("\n")
        self.assertLessEqual(len(lines), 401, "L10")
        self.assertLessEqual(max(len(line) for line in lines), 120, "L10")
        for node in nodes(path):
            if isinstance(node, ast.FunctionDef):
                self.assertLessEqual(node.end_lineno - node.lineno + 1, 40, f"L10 {node.name}")

    @of_each_file
    def test_words_that_stand_nowhere(self, path):
        text = path.read_text()
        self.assertEqual(set(re.findall(r"\w+", text)) & NO_WORDS, set(), "L17")
        for word in NOT_WITHIN:
            self.assertNotIn(word, text, "L17")

    @of_each_file
    def test_the_top_of_a_module(self, path):
        body = ast.parse(path.read_text()).body
        bound = []
        for place, node in enumerate(body):
            if isinstance(node, ast.Expr):
                self.assertEqual(place, 0, "L3")
                self.assertIsInstance(node.value, ast.Constant, "L3")
                continue
            self.assertIsInstance(node, (ast.ImportFrom, ast.FunctionDef, ast.ClassDef, ast.Assign), "L3")
            if isinstance(node, ast.Assign):
                plain = (ast.Constant, ast.List, ast.Tuple, ast.Dict, ast.Load, ast.Name, ast.UnaryOp, ast.USub)
                for part in ast.walk(node.value):
                    self.assertIsInstance(part, plain, f"L3 line {node.lineno}")
                bound.append(node.targets[0].id)
            elif isinstance(node, ast.ImportFrom):
                bound.extend(alias.asname or alias.name for alias in node.names)
            else:
                bound.append(node.name)
        self.assertEqual(len(bound), len(set(bound)), "L15")

    @of_each_file
    def test_imports(self, path):
        for node in nodes(path):
            self.assertNotIsInstance(node, ast.Import, "L16")
            if isinstance(node, ast.ImportFrom):
                self.assertEqual(node.level, 0, "L2")
                self.assertRegex(node.module, r"^formkin\.\w+$", "L2")
                tops = ast.parse((PACKAGE / f"{node.module.split('.')[1]}.py").read_text()).body
                defined = {name for name, place in bound_names(tops)}
                defined.update(top.targets[0].id for top in tops if isinstance(top, ast.Assign))
                for alias in node.names:
                    self.assertIn(alias.name, defined, "L16")

    def test_no_files_draw_from_one_another(self):
        left = {}
        for path in FILES:
            drawn = [node.module for node in nodes(path) if isinstance(node, ast.ImportFrom)]
            left[path.stem] = {module.split(".")[1] for module in drawn}
        while left:
            free = [name for name in left if not left[name] & set(left)]
            self.assertTrue(free, f"L16: these draw from one another: {sorted(left)}")
            for name in free:
                del left[name]

    @of_each_file
    def test_statements(self, path):
        for node in nodes(path):
            if isinstance(node, ast.stmt):
                self.assertIsInstance(node, STATEMENTS, f"L6 line {node.lineno}")
            if isinstance(node, ast.Assign):
                self.assertEqual(len(node.targets), 1, f"L6 line {node.lineno}")
            if isinstance(node, (ast.For, ast.While)):
                self.assertEqual(node.orelse, [], f"L6 line {node.lineno}")
            if isinstance(node, ast.Try):
                self.assertEqual(node.finalbody, [], f"L6 line {node.lineno}")
            if isinstance(node, ast.ExceptHandler):
                self.assertIsNotNone(node.type, f"L6 line {node.lineno}")

    @of_each_file
    def test_expressions_by_themselves_are_calls(self, path):
        tree = ast.parse(path.read_text())
        for node in ast.walk(tree):
            if isinstance(node, ast.Expr) and node != tree.body[0]:
                self.assertIsInstance(node.value, ast.Call, f"L6 line {node.lineno}")

    @of_each_file
    def test_functions_and_classes(self, path):
        for node in nodes(path):
            if isinstance(node, (ast.FunctionDef, ast.Lambda)):
                asked = node.args
                self.assertFalse(asked.vararg or asked.kwarg or asked.kwonlyargs or asked.posonlyargs, "L4")
            if isinstance(node, (ast.FunctionDef, ast.ClassDef)):
                self.assertEqual(node.decorator_list, [], "L4, L5")
            if isinstance(node, ast.ClassDef):
                self.assertLessEqual(len(node.bases), 1, "L5")
                self.assertEqual(node.keywords, [], "L5")
                for part in node.body:
                    self.assertIsInstance(part, (ast.FunctionDef, ast.Pass), f"L5 line {part.lineno}")
                names = [part.name for part in node.body if isinstance(part, ast.FunctionDef)]
                self.assertEqual(len(names), len(set(names)), "L18")
                self.assertLessEqual({name for name in names if name.startswith("_")}, DUNDERS, "L5")

    @of_each_file
    def test_expressions(self, path):
        for node in nodes(path):
            if isinstance(node, ast.expr):
                self.assertIsInstance(node, EXPRESSIONS, f"L7 line {node.lineno}")
            if isinstance(node, ast.Constant):
                self.assertIn(type(node.value), (int, str, bool, type(None)), f"L7 line {node.lineno}")
            if isinstance(node, ast.ListComp):
                self.assertEqual(len(node.generators), 1, f"L7 line {node.lineno}")
                self.assertLessEqual(len(node.generators[0].ifs), 1, f"L7 line {node.lineno}")
            if isinstance(node, ast.FormattedValue):
                self.assertIsInstance(node.value, ast.Name, f"L7 line {node.lineno}")
                self.assertIn(node.conversion, (-1, ord("r")), f"L7 line {node.lineno}")
                self.assertIsNone(node.format_spec, f"L7 line {node.lineno}")
            if isinstance(node, (ast.BinOp, ast.AugAssign)):
                self.assertNotIsInstance(node.op, (ast.Div, ast.MatMult), f"L7 line {node.lineno}")

    @of_each_file
    def test_powers_and_texts(self, path):
        found = nodes(path)
        for node in found:
            if isinstance(node, (ast.BinOp, ast.AugAssign)) and isinstance(node.op, ast.Pow):
                self.assertIsInstance(node.right, ast.Constant, f"L27 line {node.lineno}")
                self.assertIn(node.right.value, range(65), f"L27 line {node.lineno}")
        for node in strings(found):
            self.assertNotIn("%", node.value, f"L27 line {node.lineno}")

    @of_each_file
    def test_names(self, path):
        found = nodes(path)
        classes = {node.name for node in found if isinstance(node, ast.ClassDef)}
        drawn = {alias.name for node in found if isinstance(node, ast.ImportFrom) for alias in node.names}
        for name, node in bound_names(found):
            where = f"{name} line {node.lineno}"
            if name not in DUNDERS:
                self.assertRegex(name, r"^[A-Za-z]\w*$", f"L12 {where}")
            self.assertNotIn(name, NOT_USED | NOT_NAMES, f"L17 {where}")
            if isinstance(node, (ast.arg, ast.Name)):
                self.assertNotIn(name, classes | drawn | set(dir(builtins)), f"L15 {where}")
        known = {name for name, node in bound_names(found)} | drawn | CALLED | ERRORS
        for node in found:
            if isinstance(node, ast.Name):
                self.assertIn(node.id, known, f"L8 line {node.lineno}")

    def test_own_methods(self):
        self.assertEqual(own_methods() & PYTHONS_OWN - METHODS - {"add", "discard"}, set(), "L26")

    @of_each_file
    def test_attributes(self, path):
        methods = own_methods()
        for node in nodes(path):
            if isinstance(node, ast.Call) and isinstance(node.func, ast.Attribute):
                self.assertIn(node.func.attr, methods | METHODS, f"L25 line {node.lineno}")
            if isinstance(node, ast.Attribute):
                self.assertNotIn(node.attr, NOT_USED, f"L8, L17 line {node.lineno}")
                if isinstance(node.ctx, ast.Store):
                    self.assertNotIn(node.attr, PYTHONS_OWN - VALUES | {"args"}, f"L26 line {node.lineno}")
                    self.assertNotIn(node.attr, methods, f"L18 line {node.lineno}")

    @of_each_file
    def test_classes_are_not_kept_or_handed_on(self, path):
        found = nodes(path)
        classes = {node.name for file in FILES for node in nodes(file) if isinstance(node, ast.ClassDef)}
        may = let_by("class", found)
        for node in found:
            if isinstance(node, ast.Name) and node.id in classes:
                self.assertIn(node, may, f"L18 line {node.lineno}")

    @of_each_file
    def test_keywords(self, path):
        for node in nodes(path):
            if called(node) in CALLED | METHODS | ERRORS:
                used = {keyword.arg for keyword in node.keywords}
                self.assertLessEqual(used, KEYWORDS.get(called(node), set()), f"L22 line {node.lineno}")

    @of_each_file
    def test_walked_at_once(self, path):
        found = nodes(path)
        may = let_by("walk", found)
        for node in found:
            if called(node) in WALKED:
                self.assertIn(node, may, f"L23 line {node.lineno}")

    @of_each_file
    def test_sets_are_not_kept(self, path):
        found = nodes(path)
        may = let_by("set", found)
        for node in found:
            if isinstance(node, ast.Set) or called(node) in ("set", "frozenset"):
                self.assertIn(node, may, f"L24 line {node.lineno}")

    @of_each_file
    def test_init_gives_back_nothing(self, path):
        for node in nodes(path):
            if isinstance(node, ast.FunctionDef) and node.name == "__init__":
                for part in ast.walk(node):
                    if isinstance(part, ast.Return):
                        self.assertIsNone(part.value, f"L28 line {part.lineno}")

    @of_each_file
    def test_no_annotations(self, path):
        for node in nodes(path):
            self.assertNotIsInstance(node, ast.AnnAssign, "L21")
            if isinstance(node, ast.arg):
                self.assertIsNone(node.annotation, f"L21 line {node.lineno}")
            if isinstance(node, ast.FunctionDef):
                self.assertIsNone(node.returns, f"L21 line {node.lineno}")

    @of_each_file
    def test_is_stands_beside_plain_names_alone(self, path):
        for node in nodes(path):
            if isinstance(node, ast.Compare) and any(isinstance(op, (ast.Is, ast.IsNot)) for op in node.ops):
                sides = [node.left] + node.comparators
                plain = [side for side in sides if isinstance(side, ast.Constant)]
                self.assertTrue(any(side.value in (None, True, False) for side in plain), f"L20 {node.lineno}")

    @of_each_file
    def test_errors_are_taken_by_name(self, path):
        for node in nodes(path):
            if isinstance(node, ast.ExceptHandler):
                taken = {part.id for part in ast.walk(node.type) if isinstance(part, ast.Name)}
                self.assertEqual(taken & {"Exception", "TypeError"}, set(), f"L19 line {node.lineno}")


if __name__ == "__main__":
    unittest.main()
