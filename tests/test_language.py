"""The package keeps to the small part of Python that it is written in, as far as its form can be read off."""

import ast
import builtins
import os
import re
import unittest

TOP = os.path.dirname(os.path.dirname(os.path.abspath(__file__)))
PACKAGE = os.path.join(TOP, "motionbank")

OWN_NAMES = set("len range enumerate zip min max sum abs sorted reversed int str bool list tuple dict set frozenset "
                "isinstance ord repr any all divmod Exception ValueError TypeError KeyError IndexError LookupError "
                "ZeroDivisionError ArithmeticError OverflowError RuntimeError NotImplementedError AttributeError "
                "StopIteration".split())
METHODS = set("append clear copy count endswith extend find get index insert isalnum isalpha isdigit islower isspace isupper "
              "items join keys ljust lower lstrip partition pop remove replace reverse rfind rjust rpartition rsplit rstrip "
              "setdefault split splitlines startswith strip update upper values zfill bit_length".split())
NOWHERE = set("type typing typing_extensions enum Enum IntEnum StrEnum Flag IntFlag Generic Protocol ABC ABCMeta namedtuple "
              "NamedTuple TypedDict TYPE_CHECKING abstractmethod".split())
UNUSED = set("register mro elements open input version_info with_traceback add_note".split())
STATEMENTS = (ast.Assign, ast.AugAssign, ast.If, ast.While, ast.For, ast.Return, ast.Break, ast.Continue, ast.Pass, ast.Raise,
              ast.Try, ast.Expr, ast.FunctionDef, ast.ClassDef, ast.ImportFrom)
EXPRESSIONS = (ast.Constant, ast.List, ast.Tuple, ast.Dict, ast.BinOp, ast.UnaryOp, ast.BoolOp, ast.Compare, ast.IfExp,
               ast.Call, ast.Attribute, ast.Subscript, ast.Slice, ast.ListComp, ast.Name, ast.Lambda, ast.JoinedStr,
               ast.FormattedValue)
WALKED = ("zip", "enumerate", "reversed", "range", "items", "keys", "values")


def files():
    return sorted(name for name in os.listdir(PACKAGE) if name != "__pycache__")


def source(name):
    with open(os.path.join(PACKAGE, name), encoding="utf-8") as opened:
        return opened.read()


def trees():
    return [(name, ast.parse(source(name))) for name in files()]


def nodes():
    return [(name, node) for name, tree in trees() for node in ast.walk(tree)]


def bound_at_top(tree):
    names = []
    for node in tree.body:
        if isinstance(node, (ast.FunctionDef, ast.ClassDef)):
            names.append(node.name)
        if isinstance(node, ast.Assign):
            names.append(node.targets[0].id)
        if isinstance(node, ast.ImportFrom):
            names.extend(alias.name for alias in node.names)
    return names


def bound_within(function):
    names = [argument.arg for argument in function.args.args]
    return names + [node.id for node in ast.walk(function) if isinstance(node, ast.Name) and isinstance(node.ctx, ast.Store)]


def functions(tree):
    return [node for node in ast.walk(tree) if isinstance(node, ast.FunctionDef)]


def is_plain_value(node):
    try:
        ast.literal_eval(node)
    except ValueError:
        return False
    return True


class Files(unittest.TestCase):
    def test_only_plain_files(self):
        self.assertIn("__init__.py", files())
        for name in files():
            self.assertRegex(name, r"\A([a-z][a-z0-9_]*|__init__|__main__)\.py\Z")
            self.assertNotIn(name[:-3], dir(builtins))

    def test_signs_and_sizes(self):
        for name in files():
            text = source(name)
            self.assertRegex(text, r"\A[ -~\n]*\Z", name)
            lines = text.split("\n")
            self.assertLessEqual(len(lines), 400, name)
            self.assertLessEqual(max(len(line) for line in lines), 120, name)
        for name, tree in trees():
            for function in functions(tree):
                self.assertLessEqual(function.end_lineno - function.lineno + 1, 40, (name, function.name))

    def test_words_that_stand_nowhere(self):
        for name in files():
            words = set(re.findall(r"\w+", source(name)))
            self.assertEqual(words & (NOWHERE | UNUSED), set(), name)
            self.assertFalse([word for word in words if re.search("dataclass|overload|contextmanager", word)], name)


class Imports(unittest.TestCase):
    def test_only_own_names_from_where_they_are_defined(self):
        drawn = {}
        for name, tree in trees():
            drawn[name] = set()
            for node in tree.body:
                if isinstance(node, ast.ImportFrom):
                    self.assertEqual((node.level, node.module.split(".")[0]), (0, "motionbank"), name)
                    home = node.module.split(".")[1] + ".py"
                    drawn[name].add(home)
                    defined = [other for other in ast.parse(source(home)).body if not isinstance(other, ast.ImportFrom)]
                    for alias in node.names:
                        self.assertIsNone(alias.asname)
                        self.assertIn(alias.name, bound_at_top(ast.Module(defined, [])), name)
        self.check_no_ring(drawn)

    def check_no_ring(self, drawn):
        while drawn:
            free = [name for name in drawn if not drawn[name] & set(drawn)]
            self.assertTrue(free, drawn)
            drawn = {name: homes for name, homes in drawn.items() if name not in free}


class Form(unittest.TestCase):
    def test_tops_of_files(self):
        for name, tree in trees():
            self.assertIsNotNone(ast.get_docstring(tree), name)
            for node in tree.body[1:]:
                self.assertIsInstance(node, (ast.ImportFrom, ast.FunctionDef, ast.ClassDef, ast.Assign), name)
                if isinstance(node, ast.Assign):
                    self.assertTrue(is_plain_value(node.value), (name, node.lineno))
                    held = [other for other in ast.walk(node.value) if isinstance(other, (ast.List, ast.Dict))]
                    self.assertIn(held, ([], [node.value]), (name, node.lineno))
            names = bound_at_top(tree)
            self.assertEqual(len(names), len(set(names)), name)

    def test_nodes(self):
        for name, node in nodes():
            place = (name, getattr(node, "lineno", 0))
            if isinstance(node, ast.stmt):
                self.assertIsInstance(node, STATEMENTS, place)
            if isinstance(node, ast.expr):
                self.assertIsInstance(node, EXPRESSIONS, place)
            if isinstance(node, ast.BinOp):
                self.assertNotIsInstance(node.op, (ast.Div, ast.MatMult, ast.Pow), place)
            if isinstance(node, ast.Constant):
                self.assertIsInstance(node.value, (int, str, type(None)), place)
                self.assertNotIn("\x25", str(node.value), place)
            if isinstance(node, ast.Assign):
                self.assertEqual(len(node.targets), 1, place)
                self.assertNotIsInstance(node.targets[0], (ast.Tuple, ast.List), place)
            if isinstance(node, (ast.For, ast.While)):
                self.assertEqual(node.orelse, [], place)
            if isinstance(node, ast.ListComp):
                self.assertEqual(len(node.generators), 1, place)
                self.assertLessEqual(len(node.generators[0].ifs), 1, place)
            if isinstance(node, ast.Compare) and any(isinstance(sign, (ast.Is, ast.IsNot)) for sign in node.ops):
                self.assertIsInstance(node.comparators[0], ast.Constant, place)

    def test_values_are_given_through_a_local_name(self):
        for name, tree in trees():
            for function in functions(tree):
                for node in ast.walk(function):
                    if isinstance(node, (ast.Attribute, ast.Subscript)) and isinstance(node.ctx, ast.Store):
                        root = node
                        while isinstance(root, (ast.Attribute, ast.Subscript)):
                            root = root.value
                        self.assertIsInstance(root, ast.Name, (name, node.lineno))
                        self.assertIn(root.id, bound_within(function), (name, node.lineno))

    def test_calls_by_themselves(self):
        for name, tree in trees():
            docstring = tree.body[0]
            for node in ast.walk(tree):
                if isinstance(node, ast.Expr) and node is not docstring:
                    self.assertIsInstance(node.value, ast.Call, (name, node.lineno))

    def test_functions(self):
        for name, tree in trees():
            for function in functions(tree):
                given = function.args
                self.assertEqual([function.decorator_list, given.kwonlyargs, given.posonlyargs, given.vararg, given.kwarg],
                                 [[], [], [], None, None], (name, function.name))

    def test_classes(self):
        for name, node in nodes():
            if isinstance(node, ast.ClassDef):
                self.assertEqual(node.decorator_list, [])
                self.assertTrue(all(isinstance(part, ast.FunctionDef) for part in node.body), (name, node.name))


class Names(unittest.TestCase):
    def test_every_name_is_known(self):
        for name, tree in trees():
            top = set(bound_at_top(tree))
            for function in functions(tree):
                known = top | set(bound_within(function)) | OWN_NAMES
                used = {node.id for node in ast.walk(function) if isinstance(node, ast.Name)}
                self.assertEqual(used - known, set(), (name, function.name))

    def test_no_name_has_two_meanings(self):
        for name, tree in trees():
            taken = set(bound_at_top(tree)) | set(dir(builtins))
            for function in functions(tree):
                self.assertEqual(set(bound_within(function)) & taken, set(), (name, function.name))
                self.assertNotIn(function.name, dir(builtins))

    def test_plain_words(self):
        for name, tree in trees():
            for function in functions(tree):
                self.assertRegex(function.name, r"\A([A-Za-z]\w*|__init__)\Z")
            for word in bound_at_top(tree) + [word for function in functions(tree) for word in bound_within(function)]:
                self.assertRegex(word, r"\A[A-Za-z]\w*\Z", name)

    def test_attributes_are_own_values_or_listed_methods(self):
        own = {node.attr for name, node in nodes() if isinstance(node, ast.Attribute) and isinstance(node.ctx, ast.Store)}
        pythons = {word for kind in (str, int, list, tuple, dict, set, bytes) for word in dir(kind)}
        self.assertEqual(own & pythons, set())
        for name, tree in trees():
            called = [node.func for node in ast.walk(tree) if isinstance(node, ast.Call)]
            for node in ast.walk(tree):
                if isinstance(node, ast.Attribute):
                    self.assertIn(node.attr, METHODS if node in called else own, (name, node.lineno))

    def test_walked_at_once(self):
        kept = [node.value for name, node in nodes() if isinstance(node, (ast.Assign, ast.Return))]
        for node in kept:
            if isinstance(node, ast.Call):
                word = node.func.attr if isinstance(node.func, ast.Attribute) else node.func.id
                self.assertNotIn(word, WALKED, node.lineno)
