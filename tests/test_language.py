"""The package's own files keep to the small part of Python; what a walk over them can see of the rules."""

import ast
import builtins
import pathlib
import re
import unittest

PACKAGE = pathlib.Path(__file__).resolve().parent.parent / "worldfind"

ERRORS = """Exception ValueError TypeError KeyError IndexError LookupError ZeroDivisionError ArithmeticError
    OverflowError RuntimeError NotImplementedError AttributeError StopIteration""".split()
OWN_NAMES = ERRORS + """len range enumerate zip min max sum abs sorted reversed int str bool list tuple dict set
    frozenset isinstance ord repr any all divmod""".split()
METHODS = """append clear copy count endswith extend find get index insert isalnum isalpha isdigit islower isspace
    isupper items join keys ljust lower lstrip partition pop remove replace reverse rfind rjust rpartition rsplit
    rstrip setdefault split splitlines startswith strip update upper values zfill bit_length""".split()
TWO_UNDERSCORES = ["__init__", "__eq__", "__repr__", "__str__", "__len__"]
OUT_WORDS = """type typing typing_extensions enum Enum IntEnum StrEnum Flag IntFlag Generic Protocol ABC ABCMeta
    namedtuple NamedTuple TypedDict TYPE_CHECKING abstractmethod""".split()
OUT_PARTS = ["dataclass", "overload", "contextmanager"]
OUT_NAMES = """register mro elements open input version_info with_traceback add_note attrgetter breakpoint builtins
    compile copyright credits delattr dir eval exec exit gc getattr globals hasattr help id importlib license locals
    methodcaller os quit setattr super type vars sys format format_map""".split()
STATEMENTS = (
    ast.FunctionDef, ast.ClassDef, ast.Assign, ast.AugAssign, ast.If, ast.While, ast.For, ast.Return, ast.Break,
    ast.Continue, ast.Pass, ast.Raise, ast.Try, ast.Expr, ast.ImportFrom,
)
OUT_EXPRESSIONS = (
    ast.SetComp, ast.DictComp, ast.GeneratorExp, ast.NamedExpr, ast.Starred, ast.Await, ast.Yield, ast.YieldFrom,
    ast.Div, ast.MatMult,
)
PYTHONS_OWN = (str, int, list, dict, set, bytes, tuple)


def files():
    return sorted(path for path in PACKAGE.rglob("*") if "__pycache__" not in path.parts)


def trees():
    return [(path.name, ast.parse(path.read_text())) for path in files()]


def nodes(*sorts):
    return [(name, node) for name, tree in trees() for node in ast.walk(tree) if isinstance(node, sorts)]


def nodes_with_parents(*sorts):
    """Each such node, with its file's name and what it stands in."""
    found = []
    for name, tree in trees():
        for parent in ast.walk(tree):
            found += [(name, node, parent) for node in ast.iter_child_nodes(parent) if isinstance(node, sorts)]
    return found


def called_name(node):
    """The name of what is called by itself, or None."""
    return node.func.id if isinstance(node, ast.Call) and isinstance(node.func, ast.Name) else None


def called_method(node):
    return node.func.attr if isinstance(node, ast.Call) and isinstance(node.func, ast.Attribute) else None


def bound_names(node):
    if isinstance(node, (ast.FunctionDef, ast.ClassDef)):
        return [node.name]
    if isinstance(node, ast.Name) and isinstance(node.ctx, ast.Store):
        return [node.id]
    if isinstance(node, ast.arg):
        return [node.arg]
    return []


class Files(unittest.TestCase):
    def test_plain_files_alone(self):
        self.assertIn(PACKAGE / "__init__.py", files())
        for path in files():
            self.assertRegex(path.name, r"^([a-z][a-z0-9_]*|__init__)\.py$")
            self.assertNotIn(path.stem, dir(builtins) + OUT_WORDS + OUT_NAMES)

    def test_signs_and_lengths(self):
        for path in files():
            text = path.read_bytes().decode("ascii")
            self.assertRegex(text, r"\A[ -~\n]*\n\Z", path.name)
            rows = text.split("\n")
            self.assertLessEqual(len(rows), 401, path.name)
            self.assertLessEqual(max(len(row) for row in rows), 120, path.name)

    def test_words_that_stand_nowhere(self):
        for path in files():
            text = path.read_text()
            words = re.findall(r"\w+", text)
            self.assertEqual([word for word in words if word in OUT_WORDS], [], path.name)
            self.assertEqual([part for part in OUT_PARTS if part in text], [], path.name)


class Tops(unittest.TestCase):
    def test_what_stands_there(self):
        for name, tree in trees():
            self.assertIsNotNone(ast.get_docstring(tree), name)
            for node in tree.body[1:]:
                self.assertIsInstance(node, (ast.ImportFrom, ast.FunctionDef, ast.ClassDef, ast.Assign), name)

    def test_each_name_once(self):
        for name, tree in trees():
            names = []
            for node in tree.body:
                if isinstance(node, ast.ImportFrom):
                    names += [alias.asname or alias.name for alias in node.names]
                elif isinstance(node, ast.Assign):
                    names += [target.id for target in node.targets]
                else:
                    names += bound_names(node)
            self.assertEqual(len(names), len(set(names)), name)

    def test_imports_name_the_package_s_own_and_make_no_ring(self):
        drawn = {path.stem: [] for path in files()}
        for name, node in nodes(ast.Import, ast.ImportFrom):
            self.assertIsInstance(node, ast.ImportFrom, name)
            self.assertEqual(node.level, 0, name)
            package, dot, module = node.module.partition(".")
            self.assertEqual(package, "worldfind", name)
            self.assertIn(module, drawn, name)
            drawn[name[:-3]].append(module)
        while drawn:
            free = [name for name in drawn if not [module for module in drawn[name] if module in drawn]]
            self.assertTrue(free, drawn)
            for name in free:
                drawn.pop(name)


class Statements(unittest.TestCase):
    def test_known_ones_alone(self):
        for name, node in nodes(ast.stmt):
            self.assertIsInstance(node, STATEMENTS, (name, node.lineno))

    def test_forms(self):
        for name, node in nodes(ast.Assign):
            self.assertEqual(len(node.targets), 1, (name, node.lineno))
        for name, node in nodes(ast.For, ast.While):
            self.assertEqual(node.orelse, [], (name, node.lineno))
        for name, node in nodes(ast.Try):
            self.assertEqual(node.finalbody, [], (name, node.lineno))
        for name, node in nodes(ast.ExceptHandler):
            self.assertIsNotNone(node.type, (name, node.lineno))

    def test_functions(self):
        for name, node in nodes(ast.FunctionDef):
            self.assertLessEqual(node.end_lineno - node.lineno + 1, 40, (name, node.name))
            self.assertEqual(node.decorator_list, [], (name, node.name))
            arguments = node.args
            self.assertEqual(
                [arguments.vararg, arguments.kwarg, arguments.kwonlyargs, arguments.posonlyargs],
                [None, None, [], []], (name, node.name))

    def test_classes(self):
        for name, node in nodes(ast.ClassDef):
            self.assertEqual((node.decorator_list, node.keywords), ([], []), (name, node.name))
            self.assertLessEqual(len(node.bases), 1, (name, node.name))
            for part in node.body:
                self.assertIsInstance(part, (ast.FunctionDef, ast.Pass), (name, node.name))


class Expressions(unittest.TestCase):
    def test_none_that_are_out(self):
        for name, node in nodes(*OUT_EXPRESSIONS):
            self.fail((name, node))
        for name, node in nodes(ast.Constant):
            self.assertNotIsInstance(node.value, (float, complex, bytes), (name, node.lineno))
            if isinstance(node.value, str):
                self.assertNotIn("%", node.value, (name, node.lineno))

    def test_comprehensions(self):
        for name, node in nodes(ast.ListComp):
            self.assertEqual(len(node.generators), 1, (name, node.lineno))
            self.assertLessEqual(len(node.generators[0].ifs), 1, (name, node.lineno))

    def test_powers_have_a_written_exponent(self):
        for name, node in nodes(ast.BinOp, ast.AugAssign):
            if isinstance(node.op, ast.Pow):
                power = node.right if isinstance(node, ast.BinOp) else node.value
                self.assertIsInstance(power, ast.Constant, (name, node.lineno))

    def test_is_beside_none_and_truths_alone(self):
        for name, node in nodes(ast.Compare):
            for sign, right in zip(node.ops, node.comparators):
                if isinstance(sign, (ast.Is, ast.IsNot)):
                    self.assertIsInstance(right, ast.Constant, (name, node.lineno))
                    self.assertIn(right.value, (None, True, False), (name, node.lineno))


class Errors(unittest.TestCase):
    def test_handlers_take_the_package_s_own_by_name(self):
        own = [node.name for name, node in nodes(ast.ClassDef) if name == "errors.py"]
        for name, node in nodes(ast.ExceptHandler):
            self.assertIsInstance(node.type, ast.Name, (name, node.lineno))
            self.assertIn(node.type.id, own, (name, node.lineno))

    def test_raised_on_the_spot(self):
        own = [node.name for name, node in nodes(ast.ClassDef) if name == "errors.py"]
        for name, node in nodes(ast.Raise):
            self.assertIn(called_name(node.exc), own, (name, node.lineno))
            if node.cause is not None:
                self.assertIs(node.cause.value, None, (name, node.lineno))


class OwnCalls(unittest.TestCase):
    def test_walked_at_once(self):
        walked = ("zip", "enumerate", "reversed", "range")
        takers = ("list", "tuple", "dict", "sorted", "sum", "any", "all", "enumerate", "zip", "min", "max")
        for name, node, parent in nodes_with_parents(ast.Call):
            if called_name(node) in walked or called_method(node) in ("items", "keys", "values"):
                in_loop = isinstance(parent, (ast.For, ast.comprehension)) and parent.iter is node
                in_call = called_name(parent) in takers and parent.args[0] is node
                self.assertTrue(in_loop or in_call, (name, node.lineno))

    def test_sets_are_not_kept(self):
        for name, node, parent in nodes_with_parents(ast.Call, ast.Set):
            if isinstance(node, ast.Set) or called_name(node) in ("set", "frozenset"):
                is_asked = isinstance(parent, ast.Compare) or called_name(parent) in ("sorted", "len")
                self.assertTrue(is_asked, (name, node.lineno))

    def test_called_where_they_stand(self):
        for name, node, parent in nodes_with_parents(ast.Name):
            if node.id in OWN_NAMES and node.id not in ERRORS + ["int", "str", "bool", "list", "tuple", "dict"]:
                is_key = isinstance(parent, ast.keyword) and parent.arg == "key"
                self.assertTrue(is_key or called_name(parent) == node.id and parent.func is node, (name, node.lineno))
        values = [node.attr for name, node in nodes(ast.Attribute) if isinstance(node.ctx, ast.Store)]
        for name, node, parent in nodes_with_parents(ast.Attribute):
            if node.attr in METHODS and node.attr not in values:
                self.assertTrue(isinstance(parent, ast.Call) and parent.func is node, (name, node.lineno))

    def test_keywords(self):
        allowed = {"sorted": ["key", "reverse"], "min": ["key", "default"], "max": ["key", "default"],
                   "sum": ["start"], "enumerate": ["start"], "zip": ["strict"]}
        for name, node in nodes(ast.Call):
            if called_method(node) or called_name(node) in OWN_NAMES:
                given = [keyword.arg for keyword in node.keywords]
                self.assertEqual([one for one in given if one not in allowed.get(called_name(node), [])], [],
                                 (name, node.lineno))

    def test_f_strings_have_plain_names(self):
        for name, node in nodes(ast.FormattedValue):
            self.assertIsInstance(node.value, ast.Name, (name, node.lineno))
            self.assertIsNone(node.format_spec, (name, node.lineno))
            self.assertIn(node.conversion, (-1, ord("r")), (name, node.lineno))


class Names(unittest.TestCase):
    def test_python_s_own(self):
        for name, node in nodes(ast.Name):
            self.assertNotIn(node.id, OUT_NAMES, (name, node.lineno))
            if hasattr(builtins, node.id):
                self.assertIn(node.id, OWN_NAMES, (name, node.lineno))

    def test_own_ones_are_plain(self):
        for name, node in nodes(ast.AST):
            for bound in bound_names(node):
                if bound not in TWO_UNDERSCORES:
                    self.assertRegex(bound, r"^[A-Za-z][A-Za-z0-9_]*$", name)
                    self.assertFalse(hasattr(builtins, bound), (name, bound))
                    self.assertNotIn(bound, OUT_NAMES, name)

    def test_locals_are_called_otherwise_than_imports_and_classes(self):
        for name, tree in trees():
            drawn = [alias.name for node in tree.body if isinstance(node, ast.ImportFrom) for alias in node.names]
            drawn += [node.name for node in tree.body if isinstance(node, ast.ClassDef)]
            for part in tree.body:
                inner = [node for node in ast.walk(part) if isinstance(node, (ast.Name, ast.arg))]
                for bound in [bound for node in inner for bound in bound_names(node)]:
                    self.assertNotIn(bound, drawn, name)

    def test_no_name_is_a_method_and_a_value(self):
        parts = [part for name, node in nodes(ast.ClassDef) for part in node.body]
        methods = [part.name for part in parts if isinstance(part, ast.FunctionDef)]
        for name, node in nodes(ast.Attribute):
            if isinstance(node.ctx, ast.Store):
                self.assertNotIn(node.attr, methods, (name, node.lineno))

    def test_lists_and_dicts_of_a_top_are_only_read(self):
        for name, tree in trees():
            tops = [node for node in tree.body if isinstance(node, ast.Assign)]
            kept = [node.targets[0].id for node in tops if isinstance(node.value, (ast.List, ast.Dict))]
            for node in tops:
                inner = [one for one in ast.walk(node.value) if isinstance(one, (ast.List, ast.Dict))]
                self.assertIn(inner, ([], [node.value]), (name, node.lineno))
            for node in ast.walk(tree):
                handed = node.args if isinstance(node, ast.Call) else []
                handed = [node.value] if isinstance(node, (ast.Return, ast.Assign)) else handed
                for one in handed:
                    self.assertFalse(isinstance(one, ast.Name) and one.id in kept, (name, node.lineno))
                if isinstance(node, ast.Subscript) and isinstance(node.value, ast.Name) and node.value.id in kept:
                    self.assertIsInstance(node.ctx, ast.Load, (name, node.lineno))

    def test_methods_and_values(self):
        for name, node in nodes(ast.Attribute):
            self.assertNotIn(node.attr, OUT_NAMES, (name, node.lineno))
            if node.attr not in METHODS + TWO_UNDERSCORES + ["add", "discard"]:
                owners = [owner for owner in PYTHONS_OWN if hasattr(owner, node.attr)]
                self.assertEqual(owners, [], (name, node.lineno, node.attr))


if __name__ == "__main__":
    unittest.main()
