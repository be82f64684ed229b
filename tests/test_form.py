"""Holds the package's files against those rules of the language that can be seen in the text alone."""

import ast
import builtins
import pathlib
import re
import unittest

PACKAGE = pathlib.Path(__file__).resolve().parent.parent / "tossbook"

STATEMENTS = (ast.Assign, ast.AugAssign, ast.If, ast.While, ast.For, ast.Return, ast.Break, ast.Continue, ast.Pass,
              ast.Raise, ast.Try, ast.Expr, ast.FunctionDef, ast.ClassDef, ast.ImportFrom)
EXPRESSIONS = (ast.Constant, ast.List, ast.Tuple, ast.Dict, ast.BinOp, ast.UnaryOp, ast.BoolOp, ast.Compare, ast.IfExp,
               ast.Call, ast.Attribute, ast.Subscript, ast.Slice, ast.ListComp, ast.JoinedStr, ast.FormattedValue,
               ast.Name, ast.Lambda)
PLAIN_VALUES = (ast.Constant, ast.UnaryOp, ast.List, ast.Tuple, ast.Dict, ast.Name)
OWN_NAMES = set("""len range enumerate zip min max sum abs sorted reversed int str bool list tuple dict set frozenset
    isinstance ord repr any all divmod Exception ValueError TypeError KeyError IndexError LookupError ZeroDivisionError
    ArithmeticError OverflowError RuntimeError NotImplementedError AttributeError StopIteration""".split())
OWN_METHODS = set("""append clear copy count endswith extend find get index insert isalnum isalpha isdigit islower
    isspace isupper items join keys ljust lower lstrip partition pop remove replace reverse rfind rjust rpartition
    rsplit rstrip setdefault split splitlines startswith strip update upper values zfill bit_length""".split())
DUNDER_METHODS = ("__init__", "__eq__", "__repr__", "__str__", "__len__")
UNUSED_NAMES = set("""register mro elements open input version_info with_traceback add_note format format_map attrgetter
    breakpoint compile delattr dir eval exec exit getattr globals hasattr help id importlib locals os quit setattr super
    vars sys gc methodcaller license credits copyright chr print""".split())
UNUSED_WORDS = re.compile(
    r"\b(type|typing|typing_extensions|enum|Enum|IntEnum|StrEnum|Flag|IntFlag|Generic|Protocol|ABC|ABCMeta|namedtuple"
    r"|NamedTuple|TypedDict|TYPE_CHECKING|abstractmethod)\b|dataclass|overload|contextmanager")
# What is only asked for one after the other, and where it may stand.
WALKS = ("zip", "enumerate", "reversed", "range", "items", "keys", "values")
WALKED_BY = ("list", "tuple", "dict", "sorted", "sum", "any", "all", "enumerate", "zip", "min", "max", "join")
KEYWORDS = {"sorted": {"key", "reverse"}, "min": {"key", "default"}, "max": {"key", "default"}, "sum": {"start"},
            "enumerate": {"start"}, "zip": {"strict"}}
CHANGING = ("append", "clear", "extend", "insert", "pop", "remove", "reverse", "setdefault", "update")
PYTHONS_OWN = set().union(*(dir(kind) for kind in (str, int, list, tuple, dict, set, frozenset, bytes)))
BAD_VALUES = set("""items keys values pop update append clear extend insert remove reverse setdefault sort args encode
    format""".split())
BAD_FILES = {"test", "tests", "testing", "site", "conftest", "sitecustomize", "usercustomize"} | set(dir(builtins))


def package_files():
    return sorted(path for path in PACKAGE.rglob("*") if path.is_file() and "__pycache__" not in path.parts)


def nodes_of(tree, *kinds):
    return [node for node in ast.walk(tree) if isinstance(node, kinds)]


def top_names(tree):
    names = []
    for node in tree.body:
        if isinstance(node, (ast.FunctionDef, ast.ClassDef)):
            names.append(node.name)
        elif isinstance(node, ast.Assign):
            names.extend(target.id for target in node.targets)
        elif isinstance(node, ast.ImportFrom):
            names.extend(alias.asname or alias.name for alias in node.names)
    return names


def own_attributes(trees):
    """The names of all methods and of all values of objects that the package makes."""
    methods, values = set(), set()
    for tree in trees:
        for owner in nodes_of(tree, ast.ClassDef):
            methods.update(node.name for node in owner.body if isinstance(node, ast.FunctionDef))
        values.update(node.attr for node in nodes_of(tree, ast.Attribute) if isinstance(node.ctx, ast.Store))
    return methods, values


def called(node):
    """The name of what is called, a function's or a method's."""
    return getattr(node.func, "id", getattr(node.func, "attr", None))


def kinds_asked_for(tree):
    """The names that stand where a class may: called, as a base, by isinstance or by except."""
    places = [node.func for node in nodes_of(tree, ast.Call)]
    places += [base for node in nodes_of(tree, ast.ClassDef) for base in node.bases]
    places += [node.type for node in nodes_of(tree, ast.ExceptHandler)]
    places += [node.args[1] for node in nodes_of(tree, ast.Call) if called(node) == "isinstance"]
    places += [node.value for node in nodes_of(tree, ast.Attribute) if node.attr == "__init__"]
    return [name for place in places for name in ([place] + getattr(place, "elts", []))]


class Form(unittest.TestCase):

    @classmethod
    def setUpClass(cls):
        cls.texts = {path: path.read_text(encoding="utf-8") for path in package_files() if path.suffix == ".py"}
        cls.trees = {path: ast.parse(text) for path, text in cls.texts.items()}

    def each(self, *kinds):
        for path, tree in self.trees.items():
            for node in nodes_of(tree, *kinds):
                yield f"{path.name}:{getattr(node, 'lineno', 0)}", node

    def test_files(self):
        self.assertIn(PACKAGE / "__init__.py", self.texts)
        for path in package_files():
            self.assertRegex(path.name, r"^[a-z0-9_]+\.py$")
            self.assertNotIn(path.stem, BAD_FILES)
            self.assertFalse(path.stem.startswith("test_"), path)

    def test_signs_and_sizes(self):
        for path, text in self.texts.items():
            self.assertIsNone(re.search(r"[^ -~\n]", text), path)
            self.assertLessEqual(len(text.splitlines()), 400, path)
            self.assertLessEqual(max(len(line) for line in text.splitlines()), 120, path)
        for place, node in self.each(ast.FunctionDef):
            self.assertLessEqual(node.end_lineno - node.lineno + 1, 40, place)

    def test_words(self):
        for path, text in self.texts.items():
            self.assertIsNone(UNUSED_WORDS.search(text), path)

    def test_imports_come_from_the_file_that_defines_the_name(self):
        drawn = {}
        for path, tree in self.trees.items():
            drawn[path] = []
            for node in nodes_of(tree, ast.ImportFrom):
                self.assertIn(node, tree.body, path)
                self.assertEqual((node.level, node.module.split(".")[0]), (0, "tossbook"), path)
                source = PACKAGE.parent / (node.module.replace(".", "/") + ".py")
                drawn[path] += [source, PACKAGE / "__init__.py"]
                defined = [item.name for item in self.trees[source].body if hasattr(item, "name")]
                defined += [item.targets[0].id for item in self.trees[source].body if isinstance(item, ast.Assign)]
                for alias in node.names:
                    self.assertIn(alias.name, defined, path)
        self.no_circle(drawn)

    def no_circle(self, drawn):
        left = dict(drawn)
        while left:
            free = [path for path in left if not any(source in left for source in left[path])]
            self.assertTrue(free, f"these draw from one another: {list(left)}")
            left = {path: left[path] for path in left if path not in free}

    def test_the_top_of_a_module(self):
        for path, tree in self.trees.items():
            self.assertIsNotNone(ast.get_docstring(tree), path)
            for node in tree.body[1:]:
                self.assertIsInstance(node, (ast.ImportFrom, ast.FunctionDef, ast.ClassDef, ast.Assign), path)
                if isinstance(node, ast.Assign):
                    self.assertFalse([part for part in nodes_of(node.value, ast.expr)
                                      if not isinstance(part, PLAIN_VALUES)], path)
            names = top_names(tree)
            self.assertEqual(len(names), len(set(names)), path)

    def test_functions_and_classes(self):
        for place, node in self.each(ast.FunctionDef, ast.Lambda):
            given = node.args
            self.assertFalse(given.vararg or given.kwarg or given.kwonlyargs or given.posonlyargs, place)
            self.assertFalse([argument for argument in given.args if argument.annotation], place)
        for place, node in self.each(ast.FunctionDef):
            self.assertFalse(node.decorator_list or node.returns, place)
        for path, tree in self.trees.items():
            for node in nodes_of(tree, ast.ClassDef):
                self.assertIn(node, tree.body)
                self.class_is_plain(node)

    def class_is_plain(self, node):
        self.assertFalse(node.decorator_list or node.keywords, node.name)
        self.assertLessEqual(len(node.bases), 1, node.name)
        methods = [item.name for item in node.body if isinstance(item, ast.FunctionDef)]
        self.assertEqual(len(methods), len(set(methods)), node.name)
        self.assertFalse([name for name in methods if name.startswith("_") and name not in DUNDER_METHODS])
        for item in node.body:
            self.assertTrue(isinstance(item, ast.FunctionDef) or isinstance(item, ast.Pass)
                            or isinstance(item, ast.Expr) and isinstance(item.value, ast.Constant), node.name)

    def test_statements(self):
        for place, node in self.each(ast.stmt):
            self.assertIsInstance(node, STATEMENTS, place)
            if isinstance(node, ast.Assign):
                self.assertEqual(len(node.targets), 1, place)
            if isinstance(node, (ast.For, ast.While)):
                self.assertFalse(node.orelse, place)
            if isinstance(node, ast.Try):
                self.assertFalse(node.finalbody, place)
            if isinstance(node, ast.Raise):
                self.assertIsInstance(node.exc, ast.Call, place)
        for place, node in self.each(ast.ExceptHandler):
            self.assertIsNotNone(node.type, place)
            named = [name.id for name in nodes_of(node.type, ast.Name)]
            self.assertFalse({"Exception", "TypeError"} & set(named), place)

    def test_expressions(self):
        for place, node in self.each(ast.expr):
            self.assertIsInstance(node, EXPRESSIONS, place)
            if isinstance(node, ast.Constant):
                self.assertIn(type(node.value), (int, str, bool, type(None)), place)
                self.assertNotIn("%", str(node.value), place)
            if isinstance(node, ast.ListComp):
                self.assertEqual(len(node.generators), 1, place)
                self.assertLessEqual(len(node.generators[0].ifs), 1, place)
            if isinstance(node, ast.BinOp):
                self.assertNotIsInstance(node.op, (ast.Div, ast.MatMult), place)
            if isinstance(node, ast.BinOp) and isinstance(node.op, ast.Pow):
                self.assertIn(getattr(node.right, "value", None), range(65), place)
            if isinstance(node, ast.Compare):
                self.is_beside_none(node, place)

    def is_beside_none(self, node, place):
        sides = [node.left] + node.comparators
        for operator, left, right in zip(node.ops, sides, sides[1:]):
            if isinstance(operator, (ast.Is, ast.IsNot)):
                beside = [side.value for side in (left, right) if isinstance(side, ast.Constant)]
                self.assertTrue([value for value in beside if value in (None, True, False)], place)

    def test_names(self):
        for path, tree in self.trees.items():
            imports = [alias.name for node in nodes_of(tree, ast.ImportFrom) for alias in node.names]
            classes = [node.name for node in nodes_of(tree, ast.ClassDef)]
            bound = [node.id for node in nodes_of(tree, ast.Name) if isinstance(node.ctx, ast.Store)]
            bound += [node.arg for node in nodes_of(tree, ast.arg)]
            defined = [node.name for node in tree.body if isinstance(node, (ast.FunctionDef, ast.ClassDef))]
            for name in bound + defined:
                self.assertRegex(name, r"^[A-Za-z][A-Za-z0-9_]*$", path)
                self.assertNotIn(name, dir(builtins), path)
                self.assertNotIn(name, UNUSED_NAMES, path)
            self.assertFalse(set(bound) & set(imports + classes), path)
            for node in nodes_of(tree, ast.Name):
                if node.id not in bound + top_names(tree):
                    self.assertIn(node.id, OWN_NAMES, f"{path.name}:{node.lineno}")

    def test_methods_and_values(self):
        methods, values = own_attributes(self.trees.values())
        self.assertFalse(methods & values)
        self.assertFalse(methods & PYTHONS_OWN - OWN_METHODS - set(DUNDER_METHODS))
        self.assertFalse(values & (PYTHONS_OWN | BAD_VALUES))
        for place, node in self.each(ast.Attribute):
            self.assertIn(node.attr, OWN_METHODS | methods | values, place)
            self.assertNotIn(node.attr, UNUSED_NAMES, place)

    def test_classes_and_pythons_own_stand_where_they_may(self):
        classes = {node.name for place, node in self.each(ast.ClassDef)}
        for path, tree in self.trees.items():
            asked_for = kinds_asked_for(tree)
            for node in nodes_of(tree, ast.Name):
                if node.id in classes | OWN_NAMES:
                    self.assertIn(node, asked_for, f"{path.name}:{node.lineno}")

    def test_values_are_given_through_self(self):
        for place, node in self.each(ast.Attribute):
            if isinstance(node.ctx, ast.Store):
                self.assertEqual(getattr(node.value, "id", None), "self", place)

    def test_keywords(self):
        for place, node in self.each(ast.Call):
            for keyword in node.keywords:
                self.assertIn(keyword.arg, KEYWORDS.get(called(node), ()), place)

    def test_methods_are_called_where_they_stand(self):
        methods = own_attributes(self.trees.values())[0] | OWN_METHODS
        functions = [node.func for place, node in self.each(ast.Call)]
        for place, node in self.each(ast.Attribute):
            if node.attr in methods:
                self.assertIn(node, functions, place)

    def test_walked_at_once(self):
        walked = [node.iter for place, node in self.each(ast.For, ast.comprehension)]
        walked += [node.args[0] for place, node in self.each(ast.Call) if node.args and called(node) in WALKED_BY]
        walked += [part for place, node in self.each(ast.Call) if called(node) == "zip" for part in node.args]
        for place, node in self.each(ast.Call):
            if called(node) in WALKS:
                self.assertIn(node, walked, place)

    def test_what_a_loop_walks_is_not_changed_in_it(self):
        for place, node in self.each(ast.For):
            names = {name.id for name in nodes_of(node.iter, ast.Name)}
            for step in node.body:
                for part in nodes_of(step, ast.Subscript):
                    if isinstance(part.ctx, ast.Store):
                        self.assertNotIn(getattr(part.value, "id", None), names, place)
                for call in nodes_of(step, ast.Call):
                    if called(call) in CHANGING:
                        self.assertNotIn(getattr(call.func.value, "id", None), names, place)

    def test_pythons_errors_are_taken_round_one_plain_call(self):
        for place, node in self.each(ast.Try):
            taken = {name.id for handler in node.handlers for name in nodes_of(handler.type, ast.Name)}
            if taken & {"ValueError", "LookupError", "IndexError"}:
                self.assertEqual(len(node.body), 1, place)
                for call in nodes_of(node.body[0], ast.Call):
                    self.assertIn(called(call), ("int", "str", "index", "remove"), place)
                self.assertFalse(nodes_of(node.body[0], ast.JoinedStr, ast.BinOp, ast.Slice, ast.Lambda), place)

    def test_what_init_gives_back(self):
        for place, node in self.each(ast.FunctionDef):
            if node.name == "__init__":
                self.assertFalse(nodes_of(node, ast.Return), place)

    def test_no_set_and_no_escape(self):
        for path, tree in self.trees.items():
            self.assertFalse([node for node in nodes_of(tree, ast.Name) if node.id in ("set", "frozenset")], path)
            self.assertIsNone(re.search(r"\\", self.texts[path]), path)


if __name__ == "__main__":
    unittest.main()
