"""The package keeps to the rules of its language, as far as a look at its text can tell."""

import ast
import os
import unittest

ROOT = os.path.dirname(os.path.dirname(os.path.abspath(__file__)))
PACKAGE = "lentcells"
BUILTINS = (
    "len range enumerate zip min max sum abs sorted reversed int str bool bytes list tuple dict set frozenset "
    "isinstance ord repr any all divmod Exception ValueError TypeError KeyError IndexError LookupError "
    "ZeroDivisionError ArithmeticError OverflowError RuntimeError NotImplementedError StopIteration "
    "NotImplemented property staticmethod classmethod super iter next map").split()
METHODS = (
    "append clear copy count endswith extend find get index insert isalnum isalpha isdigit islower isspace isupper "
    "items join keys ljust lower lstrip partition pop remove replace reverse rfind rjust rpartition rsplit rstrip "
    "setdefault split splitlines startswith strip update upper values zfill bit_length add discard __init__").split()
DUNDERS = (
    "__init__ __eq__ __repr__ __str__ __len__ __enter__ __exit__ __call__ __iter__ __contains__ __bool__ "
    "__getitem__ __setitem__ __lt__ __le__ __gt__ __ge__").split()
BANNED_NAMES = (
    "register mro elements open input law version_info with_traceback add_note attrgetter breakpoint builtins compile "
    "copyright credits delattr dir eval exec exit gc getattr globals hasattr help id importlib license locals "
    "methodcaller os quit setattr type vars sys format format_map object hash print round filter slice").split()
BANNED_WORDS = (
    "type typing typing_extensions enum Enum IntEnum StrEnum Flag IntFlag Generic Protocol ABC ABCMeta namedtuple "
    "NamedTuple TypedDict TYPE_CHECKING abstractmethod").split()
AT_ONCE = ("zip", "enumerate", "reversed", "range")
VIEWS = ("items", "keys", "values")
TAKERS = ("list", "tuple", "dict", "sorted", "sum", "any", "all", "enumerate", "zip", "bytes", "min", "max")
STATEMENTS = (
    ast.Assign, ast.AugAssign, ast.If, ast.While, ast.For, ast.Return, ast.Break, ast.Continue, ast.Pass, ast.Raise,
    ast.Assert, ast.Delete, ast.Try, ast.Expr, ast.FunctionDef, ast.ClassDef, ast.ImportFrom)
LIBRARY = {"math": ("gcd", "lcm", "isqrt", "comb", "perm", "factorial"), "heapq": ("heappush", "heappop"),
           "itertools": ("product", "combinations", "permutations")}
SIZED = ("any", "all", "min", "max", "sum", "sorted")


def package_files():
    """The paths of all files of the package, and their texts."""
    for folder, _, names in sorted(os.walk(os.path.join(ROOT, PACKAGE))):
        for name in sorted(names):
            if "__pycache__" not in folder:
                path = os.path.join(folder, name)
                with open(path, encoding="utf-8") as file:
                    yield os.path.relpath(path, ROOT), file.read()


def parents_of(tree):
    """The dict from each node but the first one to the node in which it stands."""
    return {child: node for node in ast.walk(tree) for child in ast.iter_child_nodes(node)}


def called(node):
    """The name of the plain function that a node calls, or None."""
    if isinstance(node, ast.Call) and isinstance(node.func, ast.Name):
        return node.func.id
    return None


def bound_names(tree):
    """All names that a file binds, with their lines."""
    for node in ast.walk(tree):
        if isinstance(node, ast.Name) and isinstance(node.ctx, ast.Store):
            yield node.id, node.lineno
        elif isinstance(node, ast.arg):
            yield node.arg, node.lineno
        elif isinstance(node, (ast.FunctionDef, ast.ClassDef)) or isinstance(node, ast.ExceptHandler) and node.name:
            yield node.name, node.lineno


class LanguageTest(unittest.TestCase):
    """Each test looks at all files, and tells the file and the line of what breaks a rule."""

    def setUp(self):
        self.files = [(path, text, ast.parse(text)) for path, text in package_files()]

    def none_of(self, found):
        self.assertEqual([], list(found))

    def test_there_are_files(self):
        self.assertGreater(len(self.files), 10)
        self.none_of(path for path, text, tree in self.files if not path.endswith(".py"))
        folders = {os.path.dirname(path) for path, text, tree in self.files}
        paths = [path for path, text, tree in self.files]
        self.none_of(folder for folder in folders if os.path.join(folder, "__init__.py") not in paths)

    def test_l10_sizes(self):
        for path, text, tree in self.files:
            lines = text.split("\n")
            self.assertLessEqual(len(lines), 400, path)
            self.none_of((path, at + 1) for at, line in enumerate(lines) if len(line) > 120 or line != line.rstrip())
            self.none_of((path, node.lineno) for node in ast.walk(tree)
                         if isinstance(node, ast.FunctionDef) and node.end_lineno - node.lineno >= 40)

    def test_l14_characters(self):
        for path, text, tree in self.files:
            self.none_of((path, letter) for letter in text if not (letter == "\n" or " " <= letter <= "~"))

    def test_l2_l16_imports(self):
        defined = {path[:-3].replace(os.sep, "."): [
            node.name for node in tree.body if isinstance(node, (ast.FunctionDef, ast.ClassDef))] + [
            target.id for node in tree.body if isinstance(node, ast.Assign) for target in node.targets]
            for path, text, tree in self.files}
        imported = {}
        for path, text, tree in self.files:
            module = path[:-3].replace(os.sep, ".")
            imported[module] = []
            self.none_of((path, node.lineno) for node in ast.walk(tree) if isinstance(node, ast.Import))
            for node in [node for node in ast.walk(tree) if isinstance(node, ast.ImportFrom)]:
                self.assertIn(node, tree.body, path)
                if node.module in LIBRARY:
                    self.none_of((path, alias.name) for alias in node.names if alias.name not in LIBRARY[node.module])
                    continue
                self.assertIn(node.module, defined, path)
                imported[module].append(node.module)
                self.none_of((path, alias.name) for alias in node.names if alias.name not in defined[node.module])
                read = {name.id for name in ast.walk(tree) if isinstance(name, ast.Name)}
                self.none_of((path, alias.name) for alias in node.names if alias.name not in read)
        for module in imported:
            seen, left = set(), list(imported[module])
            while left:
                here = left.pop()
                self.assertNotEqual(here, module)
                if here not in seen:
                    seen.add(here)
                    left.extend(imported[here])

    def test_l3_l6_statements(self):
        for path, text, tree in self.files:
            plain = (ast.ImportFrom, ast.FunctionDef, ast.ClassDef, ast.Assign)
            self.none_of((path, node.lineno) for at, node in enumerate(tree.body)
                         if not isinstance(node, plain) and not (at == 0 and isinstance(node, ast.Expr)))
            self.none_of((path, node.lineno) for node in ast.walk(tree)
                         if isinstance(node, ast.stmt) and not isinstance(node, STATEMENTS))
            self.none_of(path for node in ast.walk(tree) if isinstance(node, (ast.Div, ast.Await)))
            self.none_of((path, node.lineno) for node in ast.walk(tree)
                         if isinstance(node, ast.Constant) and isinstance(node.value, (float, complex)))

    def test_l4_l5_definitions(self):
        for path, text, tree in self.files:
            for node in ast.walk(tree):
                if isinstance(node, ast.FunctionDef):
                    self.none_of((path, node.lineno) for mark in node.decorator_list
                                 if not (isinstance(mark, ast.Name) and mark.id == "property"))
                    self.none_of([(path, node.lineno)] if node.name.startswith("__") and node.name not in DUNDERS
                                 else [])
                    self.assertTrue(ast.get_docstring(node) or node.name.startswith("_"), (path, node.name))
                if isinstance(node, ast.ClassDef):
                    self.none_of(node.decorator_list)
                    self.assertTrue(ast.get_docstring(node), (path, node.name))
                    names = [item.name for item in node.body if isinstance(item, ast.FunctionDef)]
                    self.assertEqual(len(set(names)), len(names), path)

    def test_l5_properties_are_no_methods(self):
        properties, methods = set(), set()
        for path, text, tree in self.files:
            for owner in [node for node in ast.walk(tree) if isinstance(node, ast.ClassDef)]:
                for node in [node for node in owner.body if isinstance(node, ast.FunctionDef)]:
                    (properties if node.decorator_list else methods).add(node.name)
        self.assertEqual(set(), properties & methods)
        stored = {node.attr for path, text, tree in self.files for node in ast.walk(tree)
                  if isinstance(node, ast.Attribute) and isinstance(node.ctx, ast.Store)}
        self.assertEqual(set(), properties & stored)
        self.assertEqual(set(), methods & stored)

    def test_l7_l23_l24_iteration(self):
        for path, text, tree in self.files:
            above = parents_of(tree)
            for node in ast.walk(tree):
                place = (path, getattr(node, "lineno", 0))
                holder = above.get(node)
                iterated = isinstance(holder, (ast.For, ast.comprehension)) and holder.iter is node
                taken = called(holder) in TAKERS and node in holder.args
                if isinstance(node, ast.GeneratorExp):
                    self.assertTrue(taken and called(holder) not in SIZED, place)
                view = isinstance(node, ast.Call) and isinstance(node.func, ast.Attribute) and node.func.attr in VIEWS
                if view or called(node) in AT_ONCE and not (called(node) == "range" and called(holder) == "reversed"):
                    self.assertTrue(iterated or taken, place)
                if isinstance(node, (ast.Set, ast.SetComp)) or called(node) == "set":
                    stored = isinstance(holder, ast.Assign) and isinstance(holder.targets[0], ast.Name)
                    self.assertTrue(called(holder) in ("sorted", "len") or stored, place)

    def test_l8_l15_l17_names(self):
        for path, text, tree in self.files:
            top = [alias.name for node in tree.body if isinstance(node, ast.ImportFrom) for alias in node.names]
            classes = [node.name for node in tree.body if isinstance(node, ast.ClassDef)]
            bound = list(bound_names(tree))
            self.none_of((path, name) for name, line in bound if name in BANNED_NAMES + BUILTINS + top)
            self.none_of((path, name) for name in classes if [word for word, line in bound].count(name) > 1)
            known = {name for name, line in bound} | set(top) | set(BUILTINS)
            self.none_of((path, node.id) for node in ast.walk(tree)
                         if isinstance(node, ast.Name) and node.id not in known)
            self.none_of((path, node.id) for node in ast.walk(tree)
                         if isinstance(node, ast.Name) and node.id == "_" and isinstance(node.ctx, ast.Load))
            self.none_of((path, node.attr) for node in ast.walk(tree)
                         if isinstance(node, ast.Attribute) and node.attr in BANNED_NAMES)

    def test_l17_l27_words_and_strings(self):
        for path, text, tree in self.files:
            notes = [node.body[0].value for node in ast.walk(tree)
                     if isinstance(node, (ast.Module, ast.FunctionDef, ast.ClassDef)) and ast.get_docstring(node)]
            for node in ast.walk(tree):
                if isinstance(node, ast.Constant) and isinstance(node.value, str):
                    self.assertNotIn("%", node.value, path)
                    self.none_of((path, word) for word in node.value.split() if word in BANNED_WORDS and
                                 node not in notes)
                if isinstance(node, ast.FormattedValue):
                    self.none_of((path, inner.value) for inner in ast.walk(node.value)
                                 if isinstance(inner, ast.Constant) and isinstance(inner.value, str))

    def test_l25_methods(self):
        own = {node.name for path, text, tree in self.files for node in ast.walk(tree)
               if isinstance(node, ast.FunctionDef)}
        for path, text, tree in self.files:
            self.none_of((path, node.lineno, node.func.attr) for node in ast.walk(tree)
                         if isinstance(node, ast.Call) and isinstance(node.func, ast.Attribute) and
                         node.func.attr not in own and node.func.attr not in METHODS)

    def test_l15_tables_are_only_read(self):
        tables = {target.id for path, text, tree in self.files for node in tree.body if isinstance(node, ast.Assign)
                  for target in node.targets if isinstance(node.value, (ast.Dict, ast.List))}
        for path, text, tree in self.files:
            above = parents_of(tree)
            for node in ast.walk(tree):
                if isinstance(node, ast.Name) and node.id in tables and isinstance(node.ctx, ast.Load):
                    holder = above[node]
                    read = (isinstance(holder, ast.Subscript) and holder.value is node or
                            isinstance(holder, ast.Compare) and node in holder.comparators or
                            isinstance(holder, ast.Attribute) and holder.attr in ("get", *VIEWS) or
                            called(holder) in ("len", "list", "dict", "tuple", "sorted") or
                            isinstance(holder, (ast.For, ast.comprehension)) and holder.iter is node)
                    self.assertTrue(read, (path, node.lineno))

    def test_l5_getitem_and_iter(self):
        for path, text, tree in self.files:
            for owner in [node for node in tree.body if isinstance(node, ast.ClassDef)]:
                methods = {node.name: node for node in owner.body if isinstance(node, ast.FunctionDef)}
                if "__iter__" in methods:
                    body = methods["__iter__"].body
                    self.assertEqual(1, len(body), path)
                    self.assertEqual("iter", called(body[0].value), path)
                    self.assertIsInstance(body[0].value.args[0], ast.Attribute, path)
                self.assertTrue("__getitem__" not in methods or "__iter__" in methods, path)
            self.none_of((path, word) for word in ("(type)", "Meta", "metaclass=") if word in text)

    def test_l5_properties_and_operators_store_nothing(self):
        for path, text, tree in self.files:
            for node in ast.walk(tree):
                if isinstance(node, ast.FunctionDef) and (node.decorator_list or node.name in DUNDERS[1:]):
                    stored = [inner for inner in ast.walk(node) if isinstance(inner, (ast.Attribute, ast.Subscript)) and
                              isinstance(inner.ctx, (ast.Store, ast.Del))]
                    self.none_of((path, inner.lineno) for inner in stored)

    def test_l20_is(self):
        for path, text, tree in self.files:
            for node in [node for node in ast.walk(tree) if isinstance(node, ast.Compare)]:
                for op, right in zip(node.ops, node.comparators):
                    plain = isinstance(right, ast.Constant) and right.value in (None, True, False)
                    self.assertTrue(plain or not isinstance(op, (ast.Is, ast.IsNot)), (path, node.lineno))

    def test_l28_texts_and_lengths_assign_nothing(self):
        for path, text, tree in self.files:
            for node in ast.walk(tree):
                if isinstance(node, ast.FunctionDef) and node.name in ("__eq__", "__str__", "__len__", "__bool__",
                                                                       "__contains__"):
                    self.none_of((path, inner.lineno) for inner in ast.walk(node)
                                 if isinstance(inner, (ast.Assign, ast.AugAssign, ast.Delete)))
                    self.assertTrue(isinstance(node.body[-1], ast.Return), path)
                if isinstance(node, ast.FunctionDef) and node.name == "__len__":
                    self.assertEqual("len", called(node.body[-1].value), path)


if __name__ == "__main__":
    unittest.main()
