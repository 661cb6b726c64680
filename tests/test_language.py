"""Whether the files of the package keep to the language, as far as their syntax tells it (the rules L1 to L28)."""

import ast
import builtins
import os
import re
import unittest

ROOT = os.path.join(os.path.dirname(os.path.dirname(os.path.abspath(__file__))), "halvesmeet")
BUILTINS = set("""len range enumerate zip min max sum abs sorted reversed int str bool bytes list tuple dict set frozenset
    isinstance ord repr any all divmod iter next Exception ValueError TypeError KeyError IndexError LookupError
    ZeroDivisionError ArithmeticError OverflowError RuntimeError NotImplementedError""".split())
ERROR_BASES = {"ValueError", "Exception", "KeyError", "IndexError", "LookupError", "ZeroDivisionError",
               "ArithmeticError", "OverflowError", "RuntimeError"}
METHODS = set("""append clear copy count endswith extend find get index insert isalnum isalpha isdigit islower isspace
    isupper items join keys ljust lower lstrip partition pop remove replace reverse rfind rjust rpartition rsplit rstrip
    setdefault split splitlines startswith strip update upper values zfill bit_length""".split())
DUNDERS = {"__init__", "__eq__", "__repr__", "__str__", "__len__", "__iter__"}
BARRED = set("""register mro elements open input law version_info with_traceback add_note attrgetter breakpoint compile
    copyright credits delattr dir eval exec exit gc globals hasattr getattr help id importlib license locals methodcaller
    os quit setattr super type vars sys args property staticmethod classmethod""".split())
WORDS = re.compile(r"\b(type|typing|enum|Enum|IntEnum|StrEnum|Flag|Generic|Protocol|ABC|namedtuple|NamedTuple)\b")
STATEMENTS = (ast.Assign, ast.AugAssign, ast.If, ast.While, ast.For, ast.Return, ast.Break, ast.Continue, ast.Pass,
              ast.Raise, ast.Assert, ast.Delete, ast.Try, ast.Expr, ast.FunctionDef, ast.ClassDef, ast.ImportFrom)
PLAIN = (ast.Constant, ast.Tuple, ast.List, ast.Dict, ast.BinOp, ast.UnaryOp, ast.Name, ast.operator, ast.unaryop,
         ast.expr_context)
TAKES_LISTS = ("any", "all", "min", "max", "sum", "sorted")
AT_ONCE = ("list", "tuple", "dict", "sorted", "sum", "any", "all", "enumerate", "zip", "min", "max")
VIEWS = ("items", "keys", "values")


def files():
    """The paths of all files of the package, from its folder on."""
    found = []
    for folder, folders, names in os.walk(ROOT):
        folders[:] = [name for name in folders if name != "__pycache__"]
        found += [os.path.relpath(os.path.join(folder, name), ROOT) for name in names]
    return sorted(found)


def text_of(path):
    with open(os.path.join(ROOT, path), encoding="utf-8", newline="") as file:
        return file.read()


TREES = {path: ast.parse(text_of(path)) for path in files()}


def nodes(kind):
    """The pairs of a path and a node of some kind."""
    return [(path, node) for path, told in TREES.items() for node in ast.walk(told) if isinstance(node, kind)]


def parents_of(tree):
    return {child: node for node in ast.walk(tree) for child in ast.iter_child_nodes(node)}


def is_call_of(node, names):
    return isinstance(node, ast.Call) and isinstance(node.func, ast.Name) and node.func.id in names


def is_view(node):
    return isinstance(node, ast.Call) and isinstance(node.func, ast.Attribute) and node.func.attr in VIEWS


def top_names(path):
    """The names that a file defines or imports at its top, each as often as it does."""
    found = []
    for node in TREES[path].body:
        if isinstance(node, (ast.FunctionDef, ast.ClassDef)):
            found.append(node.name)
        elif isinstance(node, ast.Assign):
            found += [target.id for target in node.targets]
        elif isinstance(node, ast.ImportFrom):
            found += [alias.name for alias in node.names]
    return found


def imports_of(path):
    """The pairs of the path of a file and a name that is imported from it."""
    return [(node.module.replace(".", "/").removeprefix("halvesmeet/") + ".py", alias)
            for node in TREES[path].body if isinstance(node, ast.ImportFrom) for alias in node.names]


def local_names(function):
    """The names of the parameters and variables of a function."""
    told = [arg.arg for arg in [*function.args.posonlyargs, *function.args.args, *function.args.kwonlyargs]]
    return told + [node.id for node in ast.walk(function) if isinstance(node, ast.Name) and isinstance(node.ctx, ast.Store)]


OWN_METHODS = {node.name for _, kind in nodes(ast.ClassDef) for node in kind.body if isinstance(node, ast.FunctionDef)}
OWN_CLASSES = {kind.name for _, kind in nodes(ast.ClassDef)}
GENERATORS = {node.name for _, node in nodes(ast.FunctionDef) if any(isinstance(part, ast.Yield) for part in ast.walk(node))}


class FilesTest(unittest.TestCase):
    def test_files(self):
        self.assertLessEqual(len(files()), 100)
        for path in files():
            self.assertRegex(path, r"^([a-z][a-z0-9_]*/)*([a-z][a-z0-9_]*|__init__)\.py$")
            folder = os.path.dirname(os.path.join(ROOT, path))
            self.assertIn("__init__.py", os.listdir(folder))
            self.assertFalse(os.path.isdir(os.path.join(ROOT, path.removesuffix(".py"))))
            self.assertNotIn(os.path.basename(path).removesuffix(".py"), set(dir(builtins)) | BARRED | {"test", "tests"})

    def test_lines(self):
        for path in files():
            text = text_of(path)
            self.assertTrue(all(sign == "\n" or " " <= sign <= "~" for sign in text), path)
            self.assertLessEqual(len(text.splitlines()), 399, path)
            self.assertLessEqual(max(map(len, text.splitlines())), 120, path)
            self.assertNotIn("_wall", text.lower())
            self.assertIsNone(WORDS.search(text), path)
            # the language bars this sign from strings; no remainder is taken of a string either
            for _, node in [row for row in nodes(ast.Constant) if row[0] == path]:
                self.assertFalse(isinstance(node.value, str) and ("%" in node.value or "\\" in node.value))
                self.assertFalse(isinstance(node.value, (float, complex, bytes)))

    def test_words(self):
        for path, node in nodes(ast.Constant):
            if isinstance(node.value, str) and "\n" not in node.value:
                self.assertIsNone(re.search(r"^_|__", node.value), path)

    def test_imports(self):
        for path, tree in TREES.items():
            kinds = [type(node) for node in tree.body]
            self.assertTrue(isinstance(tree.body[0], ast.Expr) and isinstance(tree.body[0].value.value, str))
            behind = [at for at, kind in enumerate(kinds) if kind is not ast.ImportFrom and at > 0]
            self.assertFalse(behind and ast.ImportFrom in kinds[behind[0]:], path)
            used = {node.id for node in ast.walk(tree) if isinstance(node, ast.Name)}
            for source, alias in imports_of(path):
                self.assertIsNone(alias.asname)
                defined = [name for name in top_names(source) if name not in [told.name for _, told in imports_of(source)]]
                self.assertIn(alias.name, defined)
                self.assertIn(alias.name, used, path)
        self.assertEqual(nodes(ast.Import), [])

    def test_no_two_files_import_from_each_other(self):
        ahead = {path: {source for source, _ in imports_of(path)} for path in TREES}
        left = dict(ahead)
        while left:
            free = [path for path, sources in left.items() if not sources & set(left)]
            self.assertTrue(free, left)
            left = {path: sources for path, sources in left.items() if path not in free}

    def test_top(self):
        for path, tree in TREES.items():
            names = top_names(path)
            self.assertEqual(len(names), len(set(names)), path)
            for node in tree.body[1:]:
                self.assertIsInstance(node, (ast.ImportFrom, ast.FunctionDef, ast.ClassDef, ast.Assign))
                if isinstance(node, ast.Assign):
                    self.assertTrue(len(node.targets) == 1 and isinstance(node.targets[0], ast.Name))
                    self.assertTrue(all(isinstance(part, PLAIN) for part in ast.walk(node.value)), path)


class RowsTest(unittest.TestCase):
    def test_statements(self):
        for path, node in nodes(ast.stmt):
            self.assertIsInstance(node, STATEMENTS, path)
        for path, node in nodes((ast.Div, ast.Lambda, ast.Await, ast.Global, ast.Set, ast.NamedExpr, ast.Starred)):
            self.fail((path, ast.dump(node)))

    def test_functions(self):
        for path, node in nodes(ast.FunctionDef):
            self.assertLessEqual(node.end_lineno - node.lineno + 1, 40, (path, node.name))
            self.assertTrue(not node.args.vararg and not node.args.kwarg and node.returns is None)
            marks = [ast.unparse(mark) for mark in node.decorator_list]
            self.assertIn(marks, [[], ["property"], ["classmethod"]])
            for default in [*node.args.defaults, *[told for told in node.args.kw_defaults if told]]:
                self.assertTrue(all(isinstance(part, PLAIN) for part in ast.walk(default)))
            if node.name.startswith("__"):
                self.assertIn(node.name, DUNDERS)

    def test_names(self):
        barred = BARRED | set(dir(builtins))
        in_classes = {part for _, kind in nodes(ast.ClassDef) for part in kind.body}
        for path, node in nodes(ast.FunctionDef):
            # a method may have the name of a builtin that the language does not use
            told = [node.name] if node not in in_classes or node.name in BUILTINS - {"next"} else []
            self.assertNotIn(node.name, BARRED, path)
            self.assertFalse(set(told) & barred, path)
            self.assertFalse(set(local_names(node)) & barred, path)
            outer = {alias.name for _, alias in imports_of(path)} | OWN_CLASSES
            for name in local_names(node) + [node.name]:
                self.assertRegex(name, r"^(_?[A-Za-z][A-Za-z0-9_]*|_|__[a-z]+__)$")
                self.assertFalse(re.match(r"_(wall|pe_|dcw_|enum_|cm_|twin_re_|lay_|law_|stub_|sre)", name))
                self.assertNotIn(name, ("_cold", "_tuplegetter", "_outside", "_record", "_written_out", "_member_names"))
            self.assertFalse(set(local_names(node)) & outer, (path, node.name))

    def test_names_that_are_read(self):
        for path, tree in TREES.items():
            known = BUILTINS | set(top_names(path)) | {"property", "classmethod"}
            for node in ast.walk(tree):
                if isinstance(node, ast.FunctionDef):
                    known |= set(local_names(node)) - {"_"}
            read = {node.id for node in ast.walk(tree) if isinstance(node, ast.Name) and isinstance(node.ctx, ast.Load)}
            self.assertLessEqual(read, known, path)

    def test_calls(self):
        parents = {path: parents_of(tree) for path, tree in TREES.items()}
        for path, node in nodes(ast.Call):
            parent = parents[path][node]
            if isinstance(node.func, ast.Attribute):
                self.assertIn(node.func.attr, METHODS | OWN_METHODS, path)
            if is_call_of(node, ("zip", "enumerate", "reversed", "range")) or is_view(node):
                self.assertTrue(isinstance(parent, (ast.For, ast.comprehension)) or is_call_of(parent, AT_ONCE), path)
            if is_call_of(node, GENERATORS):
                self.fail("the package itself calls no generator")
            if is_call_of(node, BUILTINS):
                self.assertLessEqual({word.arg for word in node.keywords}, {"key", "default", "start", "reverse"})
                for word in node.keywords:
                    self.assertTrue(word.arg != "reverse" or (node.func.id == "sorted" and isinstance(word.value, ast.Constant)))
            if is_call_of(node, ("set", "frozenset", "next", "map", "print")):
                self.fail(path)

    def test_iteration(self):
        for path, node in nodes(ast.FunctionDef):
            if node.name == "__iter__":
                self.assertRegex(ast.unparse(node.body[-1]), r"^return iter\(self\._[a-z]+\)$")
                self.assertEqual(len(node.body), 1)
            elif [part for part in ast.walk(node) if is_call_of(part, ("iter",))]:
                self.fail(path)

    def test_comprehensions(self):
        parents = {path: parents_of(tree) for path, tree in TREES.items()}
        self.assertEqual(nodes(ast.GeneratorExp), [])
        for path, node in nodes(ast.SetComp):
            self.assertTrue(is_call_of(parents[path][node], ("sorted", "len")))

    def test_comparisons(self):
        for path, node in nodes(ast.Compare):
            for sign, other in zip(node.ops, node.comparators):
                if isinstance(sign, (ast.Is, ast.IsNot)):
                    self.assertTrue(isinstance(other, ast.Constant) and other.value in (None, True, False), path)
        for path, node in nodes(ast.BinOp):
            if isinstance(node.op, ast.Pow):
                self.assertTrue(isinstance(node.right, ast.Constant) and 0 <= node.right.value <= 64)

    def test_errors(self):
        own = {kind.name for _, kind in nodes(ast.ClassDef) if kind.bases}
        for path, node in nodes(ast.Raise):
            self.assertTrue(isinstance(node.exc, ast.Call) and node.exc.func.id in own, path)
        for path, node in nodes(ast.ExceptHandler):
            told = node.type.elts if isinstance(node.type, ast.Tuple) else [node.type]
            self.assertTrue(all(kind.id in own for kind in told), path)

    def test_classes(self):
        properties = {node.name for _, node in nodes(ast.FunctionDef) if node.decorator_list
                      and ast.unparse(node.decorator_list[0]) == "property"}
        methods = [node.name for _, kind in nodes(ast.ClassDef) for node in kind.body if isinstance(node, ast.FunctionDef)
                   and node.name not in properties]
        attributes = {node.attr for _, node in nodes(ast.Attribute) if isinstance(node.ctx, ast.Store)}
        self.assertFalse(properties & (set(methods) | attributes | METHODS))
        self.assertFalse(attributes & (set(methods) | METHODS))
        for path, kind in nodes(ast.ClassDef):
            self.assertFalse(kind.decorator_list or kind.keywords)
            for base in kind.bases:
                self.assertIn(base.id, ERROR_BASES | OWN_CLASSES)
            self.assertTrue(all(isinstance(node, (ast.FunctionDef, ast.Expr)) for node in kind.body), path)

    def test_methods_that_change_nothing(self):
        for path, node in nodes(ast.FunctionDef):
            if node.name in ("__eq__", "__str__", "__len__") or [ast.unparse(mark) for mark in node.decorator_list] == ["property"]:
                self.assertFalse([part for part in ast.walk(node) if isinstance(part, (ast.Assign, ast.AugAssign))], node.name)
                self.assertIsInstance(node.body[-1], ast.Return)

    def test_tables_are_only_read(self):
        for path, tree in TREES.items():
            tables = [node.targets[0].id for node in tree.body if isinstance(node, ast.Assign)
                      and isinstance(node.value, (ast.Dict, ast.List))]
            parents = parents_of(tree)
            for node in ast.walk(tree):
                if isinstance(node, ast.Name) and node.id in tables and isinstance(node.ctx, ast.Load):
                    self.assertIsInstance(parents[node], (ast.Subscript, ast.Compare))


if __name__ == "__main__":
    unittest.main()
