"""Those rules of the language that a look at the code's tree can check; what it allows is narrower than the rules."""

import ast
import builtins
import pathlib
import unittest

PACKAGE = pathlib.Path(__file__).resolve().parent.parent / "digitsturn"
FILES = sorted(path for path in PACKAGE.rglob("*") if path.is_file() and "__pycache__" not in path.parts)
TREES = {path: ast.parse(path.read_text(encoding="utf-8")) for path in FILES if path.suffix == ".py"}

NODES = (
    ast.Module, ast.FunctionDef, ast.ClassDef, ast.ImportFrom, ast.alias, ast.arguments, ast.arg, ast.Return, ast.Assign,
    ast.AugAssign, ast.For, ast.While, ast.If, ast.Raise, ast.Expr, ast.Pass, ast.Break, ast.Continue, ast.Yield,
    ast.BoolOp, ast.BinOp, ast.UnaryOp, ast.IfExp, ast.Dict, ast.ListComp, ast.DictComp, ast.comprehension,
    ast.Compare, ast.Call, ast.keyword, ast.Constant, ast.Attribute, ast.Subscript, ast.Slice, ast.Name, ast.List,
    ast.Tuple, ast.expr_context, ast.boolop, ast.unaryop, ast.cmpop, ast.Add, ast.Sub, ast.Mult, ast.FloorDiv, ast.Mod,
    ast.BitAnd, ast.BitOr, ast.BitXor, ast.LShift, ast.RShift, ast.Invert, ast.Del, ast.Delete, ast.Lambda,
    ast.Try, ast.ExceptHandler, ast.JoinedStr, ast.FormattedValue,
)
BUILTINS = (
    "len range enumerate zip min max sum abs sorted reversed int str bool list tuple dict set isinstance ord repr any "
    "all divmod ValueError KeyError Exception"
).split()
METHODS = (
    "append clear copy count endswith extend find get index insert isalnum isalpha isdigit islower isspace isupper items "
    "join keys ljust lower lstrip partition pop remove replace reverse rfind rjust rpartition rsplit rstrip setdefault "
    "split splitlines startswith strip update upper values zfill bit_length"
).split()
NO_NAMES = "mro elements open input law version_info with_traceback add_note register".split()
NO_WORDS = (
    "type typing typing_extensions enum Enum IntEnum StrEnum Flag IntFlag Generic Protocol ABC ABCMeta namedtuple "
    "NamedTuple TypedDict TYPE_CHECKING abstractmethod"
).split()
ITERATED = ("zip", "enumerate", "reversed", "range")
VIEWS = ("items", "keys", "values")
TAKERS = ("list", "tuple", "dict", "sorted", "sum", "any", "all", "min", "max", "enumerate", "zip", "reversed")


def nodes(kind):
    """Yield (file, node) for all nodes of a kind."""
    for path, tree in TREES.items():
        for node in ast.walk(tree):
            if isinstance(node, kind):
                yield path, node


def functions():
    return nodes(ast.FunctionDef)


def parents(tree):
    return {child: node for node in ast.walk(tree) for child in ast.iter_child_nodes(node)}


def docstrings():
    """Return the places of all docstrings."""
    found = set()
    for path, node in nodes((ast.Module, ast.ClassDef, ast.FunctionDef)):
        if node.body and isinstance(node.body[0], ast.Expr) and isinstance(node.body[0].value, ast.Constant):
            found.add((path, node.body[0].value.lineno))
    return found


def bound_names(function):
    """Return the parameters and local variables of a function."""
    names = [arg.arg for arg in function.args.args]
    return names + [node.id for node in ast.walk(function) if isinstance(node, ast.Name)
                    and isinstance(node.ctx, ast.Store)]


class LanguageTest(unittest.TestCase):
    def test_files(self):
        self.assertIn(PACKAGE / "__init__.py", FILES)
        for path in FILES:
            self.assertEqual(path.suffix, ".py")
            self.assertRegex(path.stem, r"\A(__init__|[a-z][a-z0-9_]*)\Z")
            text = path.read_text(encoding="utf-8")
            self.assertRegex(text, r"\A[ -~\n]*\Z", path)
            self.assertLessEqual(len(text.splitlines()), 399, path)
            self.assertLessEqual(max(map(len, text.splitlines())), 120, path)

    def test_sizes_of_functions(self):
        for path, function in functions():
            self.assertLessEqual(function.end_lineno - function.lineno + 1, 40, (path, function.name))

    def test_nodes(self):
        for path, node in nodes(ast.AST):
            self.assertIsInstance(node, NODES, (path, getattr(node, "lineno", None)))

    def test_no_decorators_and_annotations(self):
        for path, function in functions():
            self.assertEqual((function.decorator_list, function.returns), ([], None), (path, function.name))
            self.assertEqual([arg for arg in function.args.args if arg.annotation], [], (path, function.name))

    def test_module_level(self):
        for path, tree in TREES.items():
            names = []
            for node in tree.body:
                self.assertIsInstance(node, (ast.Expr, ast.ImportFrom, ast.FunctionDef, ast.ClassDef, ast.Assign))
                if isinstance(node, ast.Assign):
                    self.assertEqual([isinstance(target, ast.Name) for target in node.targets], [True])
                    names.append(node.targets[0].id)
                elif isinstance(node, ast.ImportFrom):
                    names += [alias.name for alias in node.names]
                elif not isinstance(node, ast.Expr):
                    names.append(node.name)
            self.assertEqual(len(names), len(set(names)), path)

    def test_imports(self):
        reached = {}
        for path, node in nodes(ast.ImportFrom):
            self.assertRegex(node.module, r"\Adigitsturn\.[a-z]+\Z", path)
            source = PACKAGE / (node.module.split(".")[1] + ".py")
            reached.setdefault(path, set()).add(source)
            own = [item.name for item in TREES[source].body if isinstance(item, (ast.FunctionDef, ast.ClassDef))]
            own += [item.targets[0].id for item in TREES[source].body if isinstance(item, ast.Assign)]
            for alias in node.names:
                self.assertIsNone(alias.asname)
                self.assertIn(alias.name, own, path)
        for path in TREES:
            self.assertNotIn(path, self.all_reached(path, reached))

    def all_reached(self, path, reached):
        found, left = set(), [path]
        while left:
            for source in reached.get(left.pop(), set()) - found:
                found.add(source)
                left.append(source)
        return found

    def test_builtins(self):
        for path, node in nodes(ast.Name):
            if node.id in vars(builtins):
                self.assertIn(node.id, BUILTINS, (path, node.lineno))

    def test_own_names(self):
        for path, function in functions():
            tree = TREES[path]
            outer = [alias.name for node in tree.body if isinstance(node, ast.ImportFrom) for alias in node.names]
            outer += [node.name for node in tree.body if isinstance(node, (ast.ClassDef, ast.FunctionDef))]
            for name in bound_names(function):
                self.assertNotIn(name, vars(builtins), path)
                self.assertNotIn(name, outer, path)
                # A parameter or a local variable may have this name.
                self.assertNotIn(name, [word for word in NO_NAMES if word != "register"], path)
                self.assertRegex(name, r"\A(_|_?[a-z][a-z0-9_]*)\Z", path)
            self.assertNotIn(function.name, NO_NAMES, path)
            self.assertNotIn(function.name, vars(builtins), path)

    def test_words(self):
        for path in TREES:
            text = path.read_text(encoding="utf-8")
            for word in NO_WORDS:
                self.assertNotRegex(text, r"\b" + word + r"\b", path)

    def test_strings(self):
        known = docstrings()
        for path, node in nodes(ast.Constant):
            self.assertNotIsInstance(node.value, float)
            if isinstance(node.value, str) and (path, node.lineno) not in known:
                self.assertNotIn("%", node.value, path)
                self.assertFalse(node.value.startswith("__"), path)

    def test_methods(self):
        own = {function.name for _, function in functions()}
        for path, node in nodes(ast.Call):
            if isinstance(node.func, ast.Attribute):
                self.assertIn(node.func.attr, own | set(METHODS), (path, node.lineno))

    def test_attributes(self):
        bases = (str, int, list, dict, set, bytes)
        assigned = {node.attr for _, node in nodes(ast.Attribute) if isinstance(node.ctx, ast.Store)}
        self.assertEqual([name for name in assigned if any(hasattr(base, name) for base in bases)
                          and name not in ("index", "count", "title", "find")], [])
        own = {function.name for _, function in functions()}
        for path, node in nodes(ast.Attribute):
            self.assertIn(node.attr, assigned | own | set(METHODS), (path, node.lineno))
        for path, tree in nodes(ast.ClassDef):
            methods = [item.name for item in tree.body if isinstance(item, ast.FunctionDef)]
            stored = {node.attr for node in ast.walk(tree) if isinstance(node, ast.Attribute)
                      and isinstance(node.ctx, ast.Store)}
            self.assertEqual(len(methods), len(set(methods)), (path, tree.name))
            self.assertFalse(stored & set(methods), (path, tree.name))

    def test_is_stands_beside_none_and_truth(self):
        for path, node in nodes(ast.Compare):
            for sign, right in zip(node.ops, node.comparators):
                if isinstance(sign, (ast.Is, ast.IsNot)):
                    self.assertIsInstance(right, ast.Constant, path)
                    self.assertIn(right.value, (None, True, False), path)

    def test_iterated_at_once(self):
        for path, tree in TREES.items():
            above = parents(tree)
            for node in ast.walk(tree):
                if isinstance(node, ast.Call) and self.is_iterator(node.func):
                    self.assertTrue(self.is_iterated(node, above[node]), (path, node.lineno))

    def is_iterator(self, called):
        if isinstance(called, ast.Attribute):
            return called.attr in VIEWS
        return isinstance(called, ast.Name) and called.id in ITERATED

    def is_iterated(self, node, user):
        if isinstance(user, (ast.For, ast.comprehension)):
            return user.iter is node
        return isinstance(user, ast.Call) and isinstance(user.func, ast.Name) and user.func.id in TAKERS

    def test_generators(self):
        makers = [function for _, function in functions()
                  if any(isinstance(node, ast.Yield) for node in ast.walk(function))]
        names = [function.name for _, function in functions()]
        stored = {node.attr for _, node in nodes(ast.Attribute) if isinstance(node.ctx, ast.Store)}
        for function in makers:
            self.assertEqual(names.count(function.name), 1)
            self.assertNotIn(function.name, stored)
        for path, node in nodes(ast.Yield):
            self.assertIsInstance(parents(TREES[path])[node], ast.Expr, path)

    def test_methods_of_one_name_take_the_same(self):
        """So a call can be read without knowing which class it is of."""
        taken = {}
        for _, tree in nodes(ast.ClassDef):
            for item in tree.body:
                if isinstance(item, ast.FunctionDef) and item.name != "__init__":
                    many = len(item.args.args)
                    self.assertEqual(taken.setdefault(item.name, many), many, (tree.name, item.name))

    def test_no_name_is_a_method_and_an_attribute(self):
        methods = {item.name for _, tree in nodes(ast.ClassDef) for item in tree.body
                   if isinstance(item, ast.FunctionDef)}
        stored = {node.attr for _, node in nodes(ast.Attribute) if isinstance(node.ctx, ast.Store)}
        self.assertEqual(methods & stored, set())

    def test_finally_only_assigns_names(self):
        for path, node in nodes(ast.Try):
            for item in node.finalbody:
                self.assertIsInstance(item, ast.If, path)
                self.assertIsInstance(item.test.ops[0], ast.IsNot, path)
                for inner in item.body:
                    self.assertIsInstance(inner, ast.Assign, path)
                    self.assertIsInstance(inner.value, ast.Name, path)

    def test_caught_errors_are_those_of_the_package(self):
        known = [node.name for node in TREES[PACKAGE / "errors.py"].body if isinstance(node, ast.ClassDef)]
        for path, node in nodes(ast.ExceptHandler):
            self.assertIn(node.type.id, known, path)

    def test_raise_makes_an_error_of_the_package(self):
        known = [node.name for node in TREES[PACKAGE / "errors.py"].body if isinstance(node, ast.ClassDef)]
        for path, node in nodes(ast.Raise):
            self.assertIsInstance(node.exc, ast.Call, path)
            self.assertIn(node.exc.func.id, known, path)


if __name__ == "__main__":
    unittest.main()
