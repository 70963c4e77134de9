"""Those rules of LANGUAGE.md that are plainly seen in the files of the package."""

import ast
import builtins
import unittest
from pathlib import Path

import knownways

FOLDER = Path(knownways.__file__).parent
FILES = sorted(FOLDER.rglob("*.py"))

ALLOWED_BUILTINS = {
    "len", "range", "enumerate", "zip", "min", "max", "sum", "abs", "sorted", "reversed", "int", "str", "bool", "list",
    "tuple", "dict", "set", "isinstance", "ord", "repr", "any", "all", "divmod", "iter", "next", "property", "ValueError",
    "TypeError", "KeyError", "IndexError", "LookupError", "ZeroDivisionError", "StopIteration", "NotImplemented"}
ALLOWED_METHODS = {
    "__init__", "__eq__", "__repr__", "__str__", "__len__", "__enter__", "__exit__", "__call__", "__iter__", "__lt__",
    "__le__", "__gt__", "__ge__", "__ne__", "__add__", "__sub__", "__mul__", "__pow__", "__and__", "__or__", "__xor__",
    "__radd__", "__rsub__", "__rmul__", "__rand__", "__ror__", "__rxor__", "__neg__", "__pos__", "__invert__",
    "__abs__", "__bool__", "__contains__", "__getitem__", "__setitem__"}
REFLECTED = {"__radd__", "__rsub__", "__rmul__", "__rand__", "__ror__", "__rxor__"}
BARRED_NODES = (ast.Global, ast.AsyncFunctionDef, ast.AsyncFor, ast.AsyncWith, ast.Await, ast.AnnAssign, ast.Import,
                ast.Div)
BARRED_WORDS = ("dataclass", "overload", "contextmanager", "(type)", "Meta", "metaclass=")


def trees():
    return [(path, ast.parse(path.read_text())) for path in FILES]


def nodes_of(kind):
    return [(path.name, node) for path, tree in trees() for node in ast.walk(tree) if isinstance(node, kind)]


def names_bound(tree):
    """All names that a file gives to functions, classes, parameters and variables."""
    found = []
    for node in ast.walk(tree):
        if isinstance(node, (ast.FunctionDef, ast.ClassDef)):
            found.append(node.name)
        elif isinstance(node, ast.arg):
            found.append(node.arg)
        elif isinstance(node, ast.Name) and isinstance(node.ctx, ast.Store):
            found.append(node.id)
        elif isinstance(node, ast.alias):
            found.append(node.name)
    return found


def imports_of(tree):
    """The modules of the package that a file imports from, with the names."""
    return {node.module: [alias.name for alias in node.names] for node in ast.walk(tree)
            if isinstance(node, ast.ImportFrom)}


def is_setter(function):
    return [ast.unparse(one) for one in function.decorator_list] == [function.name + ".setter"]


class Language(unittest.TestCase):

    def test_the_folder_holds_python_files_only(self):
        for path in FOLDER.rglob("*"):
            if "__pycache__" not in path.parts:
                self.assertTrue(path.suffix == ".py" and path.name == path.name.lower(), path)

    def test_sizes(self):
        for path in FILES:
            lines = path.read_text().split("\n")
            self.assertLessEqual(len(lines) - 1, 399, path)
            self.assertLessEqual(max(len(line) for line in lines), 120, path)
        for name, node in nodes_of(ast.FunctionDef):
            self.assertLessEqual(node.end_lineno - node.lineno + 1, 40, (name, node.name))

    def test_characters(self):
        for path in FILES:
            for character in path.read_bytes():
                self.assertTrue(character == 10 or 32 <= character <= 126, path)
        for name, node in nodes_of(ast.Constant):
            if isinstance(node.value, str):
                self.assertNotIn(chr(37), node.value, name)

    def test_barred_words(self):
        for path in FILES:
            for word in BARRED_WORDS:
                self.assertNotIn(word, path.read_text(), path)

    def test_barred_statements(self):
        self.assertEqual(nodes_of(BARRED_NODES), [])
        self.assertEqual([node for _, node in nodes_of(ast.ClassDef) if node.decorator_list], [])

    def test_decorators(self):
        for name, node in nodes_of(ast.ClassDef):
            for row in node.body:
                if isinstance(row, ast.FunctionDef) and row.decorator_list and not is_setter(row):
                    self.assertEqual([ast.unparse(one) for one in row.decorator_list], ["property"], (name, row.name))
        marked = [node for _, node in nodes_of(ast.FunctionDef) if node.decorator_list]
        inside = [row for _, node in nodes_of(ast.ClassDef) for row in node.body if getattr(row, "decorator_list", None)]
        self.assertEqual(len(marked), len(inside))

    def test_attributes_have_no_names_of_properties(self):
        properties = {node.name for _, node in nodes_of(ast.FunctionDef) if node.decorator_list}
        self.assertEqual(properties, {"traits"})
        for name, node in nodes_of(ast.Attribute):
            if isinstance(node.ctx, ast.Store):
                self.assertNotIn(node.attr, properties, name)

    def test_names_that_are_not_used(self):
        barred = {"register", "mro", "elements", "open", "input", "law", "version_info", "add_note", "dir", "eval", "exec", "exit",
                  "id", "os", "quit", "super", "type", "vars", "sys", "compile", "help"}
        for path, tree in trees():
            self.assertEqual(barred & set(names_bound(tree)), set(), path)
        for kind, attribute in ((ast.Attribute, "attr"), (ast.FunctionDef, "name"), (ast.keyword, "arg"), (ast.arg, "arg")):
            for name, node in nodes_of(kind):
                self.assertNotIn(getattr(node, attribute), barred, name)

    def test_imports_name_the_file_that_defines_the_name(self):
        by_name = {"knownways." + path.stem: tree for path, tree in trees()}
        for module, tree in by_name.items():
            for source, names in imports_of(tree).items():
                self.assertIn(source, by_name, module)
                defined = [row.name for row in by_name[source].body if isinstance(row, (ast.FunctionDef, ast.ClassDef))]
                for row in by_name[source].body:
                    if isinstance(row, ast.Assign):
                        defined += [target.id for target in row.targets]
                for name in names:
                    self.assertIn(name, defined, (module, source))

    def test_no_two_files_import_from_each_other(self):
        left = {"knownways." + path.stem: set(imports_of(tree)) for path, tree in trees()}
        while left:
            free = [module for module, sources in left.items() if not sources & set(left)]
            self.assertNotEqual(free, [], left)
            left = {module: sources for module, sources in left.items() if module not in free}

    def test_no_name_is_that_of_a_builtin_or_bound_twice(self):
        for path, tree in trees():
            for name in names_bound(tree):
                self.assertNotIn(name, vars(builtins), path)
            top = [row.name for row in tree.body if isinstance(row, (ast.FunctionDef, ast.ClassDef))]
            top += [target.id for row in tree.body if isinstance(row, ast.Assign) for target in row.targets]
            top += [name for names in imports_of(tree).values() for name in names]
            self.assertEqual(len(top), len(set(top)), path)

    def test_builtins(self):
        for name, node in nodes_of(ast.Name):
            if node.id in vars(builtins):
                self.assertIn(node.id, ALLOWED_BUILTINS, name)

    def test_methods_are_called_where_they_stand(self):
        own = {row.name for _, node in nodes_of(ast.ClassDef) for row in node.body
               if isinstance(row, ast.FunctionDef) and not row.decorator_list}
        of_builtins = {name for kind in (int, str, bytes, list, tuple, dict, set, frozenset) for name in dir(kind)}
        for path, tree in trees():
            called = [node.func for node in ast.walk(tree) if isinstance(node, ast.Call)]
            for node in ast.walk(tree):
                if isinstance(node, ast.Attribute) and node.attr in own | of_builtins:
                    self.assertTrue(node in called, (path.name, node.lineno, ast.unparse(node)))

    def test_double_underscore_methods(self):
        for name, node in nodes_of(ast.ClassDef):
            methods = [row.name for row in node.body if isinstance(row, ast.FunctionDef) and not is_setter(row)]
            for method in methods:
                self.assertTrue(not method.startswith("__") or method in ALLOWED_METHODS, (name, method))
            if "__getitem__" in methods:
                self.assertIn("__iter__", methods, (name, node.name))
            self.assertEqual(len(methods), len(set(methods)), (name, node.name))

    def test_reflected_methods_stand_in_classes_without_a_family(self):
        bases = {base.id for _, node in nodes_of(ast.ClassDef) for base in node.bases}
        for name, node in nodes_of(ast.ClassDef):
            methods = {row.name for row in node.body if isinstance(row, ast.FunctionDef)}
            if methods & REFLECTED:
                self.assertEqual(node.bases, [], (name, node.name))
                self.assertNotIn(node.name, bases, name)

    def test_each_len_returns_a_len_or_a_literal(self):
        for name, node in nodes_of(ast.FunctionDef):
            if node.name == "__len__":
                worth = node.body[-1].value
                self.assertTrue(isinstance(worth, ast.Constant) or worth.func.id == "len", name)

    def test_no_local_name_is_that_of_a_class_or_an_import_of_its_file(self):
        for path, tree in trees():
            kept = {row.name for row in tree.body if isinstance(row, ast.ClassDef)}
            kept |= {name for names in imports_of(tree).values() for name in names}
            for function in [node for node in ast.walk(tree) if isinstance(node, ast.FunctionDef)]:
                for row in ast.walk(function):
                    if isinstance(row, ast.arg):
                        self.assertNotIn(row.arg, kept, path)
                    if isinstance(row, ast.Name) and isinstance(row.ctx, ast.Store):
                        self.assertNotIn(row.id, kept, path)

    def test_no_index_has_a_star(self):
        for name, node in nodes_of(ast.Subscript):
            self.assertEqual([row for row in ast.walk(node.slice) if isinstance(row, ast.Starred)], [], name)

    def test_no_function_has_the_name_of_a_generator(self):
        functions = [node for _, node in nodes_of(ast.FunctionDef)]
        yielding = [node.name for node in functions if any(isinstance(row, (ast.Yield, ast.YieldFrom)) for row in ast.walk(node))]
        for name in yielding:
            self.assertEqual([node.name for node in functions].count(name), 1, name)


if __name__ == "__main__":
    unittest.main()
