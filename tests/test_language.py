"""The package keeps to the part of the language that it may use, as far as a look at its files can tell."""

import ast
import builtins
import keyword
import os
import re
import unittest

PACKAGE = "standup"
FOLDER = os.path.join(os.path.dirname(os.path.dirname(os.path.abspath(__file__))), PACKAGE)

NODES = """Module Import ImportFrom alias FunctionDef arguments arg ClassDef Assign AugAssign If While For Return Break
Continue Pass Raise Try ExceptHandler Expr Constant List Tuple Dict Set BinOp BoolOp UnaryOp Compare IfExp Call keyword
Attribute Subscript Slice ListComp comprehension JoinedStr FormattedValue Lambda Name Load Store Add Sub Mult FloorDiv
Mod Pow BitOr BitAnd BitXor LShift RShift Invert Eq NotEq Lt LtE Gt GtE Is IsNot In NotIn And Or Not USub
UAdd""".split()
KNOWN = """len range enumerate zip min max sum abs sorted reversed int str bool list tuple dict set frozenset isinstance
ord repr any all divmod Exception ValueError TypeError KeyError IndexError LookupError ZeroDivisionError
ArithmeticError OverflowError RuntimeError NotImplementedError AttributeError StopIteration""".split()
METHODS = """append clear copy count endswith extend find get index insert isalnum isalpha isdigit islower isspace
isupper items join keys ljust lower lstrip partition pop remove replace reverse rfind rjust rpartition rsplit rstrip
setdefault split splitlines startswith strip update upper values zfill bit_length __init__""".split()
WORDS = """type typing typing_extensions enum Enum IntEnum StrEnum Flag IntFlag Generic Protocol ABC ABCMeta namedtuple
NamedTuple TypedDict TYPE_CHECKING abstractmethod""".split()
WALKS = "zip enumerate reversed range items keys values".split()
WALKERS = "list tuple dict sorted sum any all enumerate zip min max join".split()
CHANGES = "append clear extend insert pop remove reverse setdefault update".split()
KEYWORDS = {"sorted": ("key", "reverse"), "min": ("key", "default"), "max": ("key", "default"), "sum": ("start",),
            "enumerate": ("start",), "zip": ("strict",)}
UNUSED = """register mro elements open input version_info with_traceback add_note format format_map""".split()


def files():
    return sorted(name for name in os.listdir(FOLDER) if name != "__pycache__")


def text_of(name):
    with open(os.path.join(FOLDER, name), encoding="utf-8") as file:
        return file.read()


def tree_of(name):
    return ast.parse(text_of(name))


def every(kind):
    """Each node of the kind, with its file's name."""
    for name in files():
        for node in ast.walk(tree_of(name)):
            if isinstance(node, kind):
                yield name, node


def with_parents(kind):
    """Each node of the kind, with its file's name and the node that it stands in."""
    for name, node in every(ast.AST):
        for child in ast.iter_child_nodes(node):
            if isinstance(child, kind):
                yield name, child, node


def called(node):
    """The name that a call calls, or the method's."""
    if not isinstance(node, ast.Call):
        return None
    return node.func.attr if isinstance(node.func, ast.Attribute) else getattr(node.func, "id", None)


def top_names(name):
    """What a file defines at its top."""
    found = []
    for node in tree_of(name).body:
        if isinstance(node, (ast.FunctionDef, ast.ClassDef)):
            found.append(node.name)
        if isinstance(node, ast.Assign):
            found += [target.id for target in node.targets]
    return found


def imported(name):
    """The imports of a file: pairs of the file drawn from and the name."""
    found = []
    for node in ast.walk(tree_of(name)):
        if isinstance(node, ast.ImportFrom):
            found += [(node.module.split(".")[-1] + ".py", entry.name) for entry in node.names]
    return found


def bound(function):
    """The parameters and locals of a function."""
    found = [argument.arg for argument in function.args.args]
    for node in ast.walk(function):
        if isinstance(node, ast.Name) and isinstance(node.ctx, ast.Store):
            found.append(node.id)
        if isinstance(node, ast.arg):
            found.append(node.arg)
        if isinstance(node, ast.ExceptHandler) and node.name:
            found.append(node.name)
    return found


class Files(unittest.TestCase):
    def test_names_of_files(self):
        self.assertIn("__init__.py", files())
        for name in files():
            self.assertRegex(name, r"^([a-z][a-z0-9_]*|__init__|__main__)\.py$")
            self.assertNotIn(name[:-3], dir(builtins))
            self.assertFalse(name.startswith("test"))

    def test_signs_and_sizes(self):
        for name in files():
            text = text_of(name)
            self.assertRegex(text, r"\A[ -~\n]*\Z", name)
            self.assertLessEqual(len(text.splitlines()), 400, name)
            self.assertLessEqual(max(len(line) for line in text.splitlines()), 120, name)
        for name, node in every(ast.FunctionDef):
            self.assertLessEqual(node.end_lineno - node.lineno + 1, 40, (name, node.name))

    def test_words(self):
        for name in files():
            words = re.findall(r"\w+", text_of(name))
            self.assertEqual([word for word in words if word in WORDS], [], name)
            self.assertIsNone(re.search("dataclass|overload|contextmanager", text_of(name)), name)

    def test_imports_draw_from_the_file_that_defines_the_name_and_go_in_no_round(self):
        for name, node in every(ast.ImportFrom):
            self.assertEqual((node.level, node.module.split(".")[0]), (0, PACKAGE), name)
            self.assertTrue(all(entry.asname is None for entry in node.names), name)
        self.assertEqual([name for name, node in every(ast.Import) if name != "__main__.py"], [])
        drawn = {name: {other for other, wanted in imported(name)} for name in files()}
        for name in files():
            for other, wanted in imported(name):
                self.assertIn(wanted, top_names(other), name)
        done = []
        while len(done) < len(drawn):
            ready = [name for name in drawn if name not in done and drawn[name] <= set(done)]
            self.assertNotEqual(ready, [], "files draw from one another")
            done += ready

    def test_the_top_binds_each_name_once(self):
        for name in files():
            names = top_names(name) + [wanted for other, wanted in imported(name)]
            self.assertEqual(len(names), len(set(names)), name)


class Forms(unittest.TestCase):
    def test_statements_and_expressions(self):
        for name, node in every(ast.AST):
            self.assertIn(node.__class__.__name__, NODES, (name, getattr(node, "lineno", None)))
            if isinstance(node, (ast.While, ast.For)):
                self.assertEqual(node.orelse, [], name)
            if isinstance(node, ast.Try):
                self.assertEqual(node.finalbody, [], name)
            if isinstance(node, ast.Assign):
                self.assertEqual(len(node.targets), 1, name)
                self.assertNotIsInstance(node.targets[0], ast.Tuple, name)
            if isinstance(node, ast.ListComp):
                self.assertEqual(len(node.generators), 1, name)
                self.assertLessEqual(len(node.generators[0].ifs), 1, name)
            if isinstance(node, ast.Constant):
                self.assertIsInstance(node.value, (int, str, bool, type(None)), name)

    def test_only_calls_stand_by_themselves(self):
        for name, node in every((ast.FunctionDef, ast.ClassDef)):
            for inner in ast.walk(node):
                if isinstance(inner, ast.Expr):
                    self.assertIsInstance(inner.value, ast.Call, (name, node.name))

    def test_is_stands_beside_none_true_and_false_alone(self):
        for name, node in every(ast.Compare):
            for sign, side in zip(node.ops, node.comparators):
                if isinstance(sign, (ast.Is, ast.IsNot)):
                    self.assertIn(ast.unparse(side), ("None", "True", "False"), name)

    def test_functions_and_classes_are_plain(self):
        for name, node in every((ast.FunctionDef, ast.ClassDef)):
            self.assertEqual(node.decorator_list, [], name)
        for name, node in every(ast.FunctionDef):
            given = node.args
            self.assertEqual((given.posonlyargs, given.kwonlyargs, given.vararg, given.kwarg), ([], [], None, None))
        for name, node in every(ast.ClassDef):
            self.assertLessEqual(len(node.bases), 1, name)
            self.assertTrue(all(isinstance(inner, (ast.FunctionDef, ast.Pass)) for inner in node.body), name)

    def test_walks_are_walked_at_once(self):
        for name, node, parent in with_parents(ast.Call):
            if called(node) in WALKS:
                if isinstance(parent, (ast.For, ast.comprehension)):
                    self.assertIs(parent.iter, node, (name, node.lineno))
                else:
                    self.assertIn(called(parent), WALKERS, (name, node.lineno))
                    self.assertIs(parent.args[0], node, (name, node.lineno))
                    if called(parent) in ("min", "max"):
                        self.assertEqual(len(parent.args), 1, (name, node.lineno))

    def test_what_a_loop_walks_is_not_changed_in_it(self):
        for name, node in every(ast.For):
            walked = {ast.unparse(inner) for inner in ast.walk(node.iter)
                      if isinstance(inner, (ast.Name, ast.Attribute, ast.Subscript))}
            for inner in [part for line in node.body for part in ast.walk(line)]:
                if isinstance(inner, ast.Call) and called(inner) in CHANGES and isinstance(inner.func, ast.Attribute):
                    self.assertNotIn(ast.unparse(inner.func.value), walked, (name, inner.lineno))
                if isinstance(inner, ast.Subscript) and isinstance(inner.ctx, ast.Store):
                    self.assertNotIn(ast.unparse(inner.value), walked, (name, inner.lineno))

    def test_sets_are_asked_on_the_spot(self):
        for name, node, parent in with_parents(ast.Call):
            if called(node) in ("set", "frozenset"):
                self.assertTrue(isinstance(parent, (ast.Compare, ast.BinOp)) or called(parent) in ("len", "sorted"),
                                (name, node.lineno))
        for name, node, parent in with_parents(ast.Set):
            self.assertIsInstance(parent, ast.Compare, (name, node.lineno))

    def test_keywords_are_those_of_the_list(self):
        for name, node in every(ast.Call):
            if called(node) in KNOWN + METHODS:
                allowed = KEYWORDS.get(called(node), ())
                self.assertTrue(all(given.arg in allowed for given in node.keywords), (name, node.lineno))

    def test_errors_are_made_on_the_spot(self):
        for name, node in every(ast.Raise):
            self.assertIsInstance(node.exc, ast.Call, (name, node.lineno))
        for name, node in every(ast.ExceptHandler):
            self.assertIsNotNone(node.type, (name, node.lineno))
            self.assertNotIn(ast.unparse(node.type), ("Exception", "TypeError"), (name, node.lineno))

    def test_exponents_are_written_and_small(self):
        for name, node in every(ast.BinOp):
            if isinstance(node.op, ast.Pow):
                self.assertIsInstance(node.right, ast.Constant, name)
                self.assertIn(node.right.value, range(65), name)


    def test_texts_are_plain(self):
        for name, node in every(ast.FormattedValue):
            self.assertIsInstance(node.value, ast.Name, (name, node.lineno))
            self.assertIsNone(node.format_spec, (name, node.lineno))
        for name, node in every(ast.Constant):
            if isinstance(node.value, str):
                self.assertNotIn("%", node.value, (name, node.lineno))
        for name in files():
            self.assertEqual(re.findall(r"\\[^nt\\'\"]", text_of(name)), [], name)

    def test_what_is_kept_at_the_top_is_plain(self):
        for name in files():
            for node in tree_of(name).body:
                if isinstance(node, ast.Assign):
                    self.assertIsInstance(node.value, (ast.Constant, ast.Tuple, ast.List, ast.Dict), name)
                    for inner in ast.walk(node.value):
                        self.assertTrue(inner is node.value or not isinstance(inner, (ast.List, ast.Dict)), name)


class Classes(unittest.TestCase):
    def methods(self):
        return [(name, node) for name, outer in every(ast.ClassDef) for node in outer.body
                if isinstance(node, ast.FunctionDef)]

    def test_stand_at_the_top(self):
        for name, node, parent in with_parents(ast.ClassDef):
            self.assertIsInstance(parent, ast.Module, (name, node.name))

    def test_no_method_stands_twice(self):
        for name, outer in every(ast.ClassDef):
            found = [node.name for node in outer.body if isinstance(node, ast.FunctionDef)]
            self.assertEqual(len(found), len(set(found)), (name, outer.name))

    def test_no_name_is_a_method_and_a_value(self):
        named = {node.name for name, node in self.methods()}
        values = {node.attr for name, node in every(ast.Attribute) if isinstance(node.ctx, ast.Store)}
        self.assertEqual(named & values, set())
        python = {word for kind in (str, int, list, dict, set, bytes) for word in dir(kind)}
        self.assertEqual(named & python - {"__init__"}, set())
        self.assertEqual(values & python - set("count index title find get join lower upper split strip copy".split()),
                         set())

    def test_values_are_given_through_self_alone(self):
        for name, node in every(ast.Attribute):
            if isinstance(node.ctx, ast.Store):
                self.assertEqual(ast.unparse(node.value), "self", (name, node.lineno))

    def test_init_gives_nothing_back(self):
        for name, node in self.methods():
            if node.name == "__init__":
                self.assertFalse(any(isinstance(inner, ast.Return) for inner in ast.walk(node)), name)
            self.assertEqual(node.args.args[0].arg, "self", (name, node.name))


class Names(unittest.TestCase):
    def test_names_are_plain_and_allowed(self):
        for name, node in every((ast.Name, ast.Attribute, ast.arg, ast.FunctionDef, ast.ClassDef)):
            word = [getattr(node, key) for key in ("id", "attr", "arg", "name") if hasattr(node, key)][0]
            if word != "__init__":
                self.assertRegex(word, r"^[A-Za-z][A-Za-z0-9_]*$", name)
            self.assertNotIn(word, UNUSED, name)
            self.assertFalse(keyword.issoftkeyword(word), (name, word))

    def test_names_of_pythons_own_are_those_of_the_list(self):
        for name in files():
            own = top_names(name) + [wanted for other, wanted in imported(name)]
            tree = tree_of(name)
            local = [word for node in ast.walk(tree) if isinstance(node, ast.FunctionDef) for word in bound(node)]
            for node in ast.walk(tree):
                if isinstance(node, ast.Name) and isinstance(node.ctx, ast.Load):
                    self.assertIn(node.id, own + local + KNOWN, name)

    def test_locals_hide_nothing(self):
        for name in files():
            tree = tree_of(name)
            hidden = top_names(name) + [wanted for other, wanted in imported(name)] + dir(builtins)
            for node in ast.walk(tree):
                if isinstance(node, ast.FunctionDef):
                    self.assertEqual([word for word in bound(node) if word in hidden], [], (name, node.name))

    def test_methods_are_those_of_the_list_or_the_packages_own(self):
        own = [inner.name for name, node in every(ast.ClassDef) for inner in node.body
               if isinstance(inner, ast.FunctionDef)]
        for name, node in every(ast.Call):
            if isinstance(node.func, ast.Attribute):
                self.assertIn(node.func.attr, METHODS + own, name)


if __name__ == "__main__":
    unittest.main()
