"""What only reads changes nothing, and calls nothing that it is passed or holds, through all that it calls, too.

These are rules L5 and L28 of the package's language. What stands behind a dot is told by its name alone: a call counts
as one of each method of the package that has this name, whatever its class is.
"""

import ast
import unittest

from test_language import called, package_files

READERS = (
    "__eq__ __ne__ __lt__ __le__ __gt__ __ge__ __str__ __repr__ __len__ __bool__ __contains__ __getitem__ "
    "__iter__").split()
CHANGERS = "append clear extend insert pop remove reverse setdefault update".split()
ALWAYS = "sort add discard".split()
HEAPS = "heappush heappop heapify heapreplace heappushpop".split()
MAKERS = ("list", "dict", "sorted")


def is_made(value):
    """Whether this makes a new list or dict."""
    return isinstance(value, (ast.List, ast.Dict, ast.ListComp)) or called(value) in MAKERS


def bindings(function):
    """The dict from each name that a function binds to what is assigned to it: None where this is not plain to see."""
    found = {}
    for node in ast.walk(function):
        if isinstance(node, ast.Assign) and len(node.targets) == 1 and isinstance(node.targets[0], ast.Name):
            found.setdefault(node.targets[0].id, []).append(node.value)
    plain = {node.targets[0] for node in ast.walk(function) if isinstance(node, ast.Assign) and len(node.targets) == 1}
    plain |= {node.target for node in ast.walk(function) if isinstance(node, ast.AugAssign)}
    for node in ast.walk(function):
        if isinstance(node, ast.arg):
            found.setdefault(node.arg, []).append(None)
        if isinstance(node, ast.Name) and isinstance(node.ctx, ast.Store) and node not in plain:
            found.setdefault(node.id, []).append(None)
    return found


def adds_freely(node, bound):
    """Whether an assignment like += is one that a reader may have."""
    if not isinstance(node.target, ast.Name) or not isinstance(node.op, (ast.Add, ast.Sub, ast.FloorDiv)):
        return False
    if not isinstance(node.op, ast.Add) or isinstance(node.value, ast.Constant) and isinstance(node.value.value, int):
        return True
    return all(isinstance(value, ast.Constant) or isinstance(value, ast.List) and value.elts == [] or
               called(value) == "list" for value in bound.get(node.target.id, [None]))


def wrongs(function):
    """The lines at which a function itself changes something, or calls what it is passed or holds."""
    bound = bindings(function)
    made = [name for name in bound if all(value is not None and is_made(value) for value in bound[name])]
    new = function.args.args[0].arg if function.name == "__init__" else None
    for node in ast.walk(function):
        stored = isinstance(getattr(node, "ctx", None), (ast.Store, ast.Del))
        holder = getattr(node, "value", None)
        own = holder.id if isinstance(holder, ast.Name) else None
        wrong = stored and (isinstance(node, ast.Attribute) and (own is None or own != new) or
                            isinstance(node, ast.Subscript) and own not in made)
        wrong = wrong or isinstance(node, ast.AugAssign) and not adds_freely(node, bound)
        if isinstance(node, ast.Call) and isinstance(node.func, ast.Attribute):
            owner = node.func.value.id if isinstance(node.func.value, ast.Name) else None
            wrong = node.func.attr in ALWAYS or node.func.attr in CHANGERS and owner not in made
        elif isinstance(node, ast.Call):
            wrong = not isinstance(node.func, ast.Name) or node.func.id in bound or node.func.id in HEAPS
        if wrong:
            yield node.lineno


class Package:
    """The functions and methods of some files, and which of them each one calls."""

    def __init__(self, files):
        self._tops, self._methods, self._places, self._readers = {}, {}, {}, []
        for path, text in files:
            self._take(path, path[:-3].replace("/", "."), ast.parse(text))

    def _take(self, path, module, tree):
        for node in tree.body:
            if isinstance(node, ast.ImportFrom):
                for alias in node.names:
                    self._tops[module, alias.name] = (node.module, alias.name)
            if isinstance(node, (ast.FunctionDef, ast.ClassDef)):
                self._tops[module, node.name] = node
            if isinstance(node, ast.FunctionDef):
                self._places[node] = (path, module)
            for method in node.body if isinstance(node, ast.ClassDef) else []:
                if isinstance(method, ast.FunctionDef):
                    self._places[method] = (path, module)
                    self._methods.setdefault(method.name, []).append(method)
                    if method.decorator_list or method.name in READERS:
                        self._readers.append(method)

    def _top(self, module, name):
        found = self._tops.get((module, name))
        while isinstance(found, tuple):
            found = self._tops.get(found)
        return found

    def _called_by(self, function):
        """All that a function calls by a name; of a class that it calls, this is how it is made."""
        module = self._places[function][1]
        for node in [node for node in ast.walk(function) if isinstance(node, ast.Call)]:
            made = None
            if isinstance(node.func, ast.Name):
                made = self._top(module, node.func.id)
            elif isinstance(node.func, ast.Attribute) and node.func.attr != "__init__":
                yield from self._methods.get(node.func.attr, [])
            elif isinstance(node.func, ast.Attribute) and isinstance(node.func.value, ast.Name):
                made = self._top(module, node.func.value.id)
            if isinstance(made, ast.FunctionDef):
                yield made
            if isinstance(made, ast.ClassDef):
                yield from [item for item in made.body if isinstance(item, ast.FunctionDef) and item.name == "__init__"]

    def readers(self):
        """How many methods only read."""
        return len(self._readers)

    def faults(self):
        """The methods that only read but change or call something: (path, row, path and row of what is wrong)."""
        found = []
        for reader in self._readers:
            seen, left = {reader}, [reader]
            while left:
                here = left.pop()
                found.extend((*self._at(reader), self._places[here][0], row) for row in wrongs(here))
                for other in self._called_by(here):
                    if other not in seen:
                        seen.add(other)
                        left.append(other)
        return sorted(set(found))

    def _at(self, reader):
        return self._places[reader][0], reader.lineno


BOX = """class Box:
    def __init__(self, rows):
        self._rows = rows

    def _told(self):
        return len(self._rows)

    def __eq__(self, other):
        return isinstance(other, Box) and self._told() == other._told()
"""
SHELF = """class Shelf:
    def __init__(self):
        self._rows = []

    def {name}(self):
        {row}
"""
WRONG_ROWS = (
    "self._rows = []", "self._rows[0] = 1", "del self._rows[0]", "self._rows.append(1)", "self._rows.sort()",
    "self._rows += [1]", "rows = self._rows; rows += [1]", "rows = self._rows; rows[0] = 1",
    "return self._rows.pop()", "[row() for row in self._rows]", "return self._rows[0]()")
RIGHT_ROWS = (
    "return self._rows", "many = len(self._rows); many += 1; many -= len(self._rows); return many",
    "rows = []; rows.append(1); return rows", "rows = list(self._rows); rows[0] = 1; del rows[0]; return rows",
    "rows = []; rows += self._rows; return rows", "return Shelf()")


class CallsTest(unittest.TestCase):
    """The package, and small texts that show what the look at it sees."""

    def test_what_only_reads_changes_nothing(self):
        package = Package([(path.replace("\\", "/"), text) for path, text in package_files()])
        self.assertGreater(package.readers(), 50)
        self.assertEqual([], package.faults())

    def small(self, name, row):
        return Package([("box.py", BOX), ("shelf.py", SHELF.format(name=name, row=row))]).faults()

    def test_a_method_is_told_by_its_name(self):
        for row in WRONG_ROWS:
            self.assertEqual([("box.py", 8, "shelf.py", 6)], self.small("_told", row), row)
            self.assertEqual([("shelf.py", 5, "shelf.py", 6)], self.small("__len__", row), row)
            self.assertEqual([], self.small("_put", row), row)
        for row in RIGHT_ROWS:
            self.assertEqual([], self.small("_told", row), row)

    def test_what_is_called_is_looked_at_through_imports(self):
        helper = "def many(rows):\n    rows.append(1)\n    return 1\n"
        box = "from helper import many\n" + BOX.replace("len(self._rows)", "many(self._rows)")
        self.assertEqual([("box.py", 9, "helper.py", 2)], Package([("box.py", box), ("helper.py", helper)]).faults())


if __name__ == "__main__":
    unittest.main()
