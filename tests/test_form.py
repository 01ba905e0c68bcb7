"""The rules for the files of the package that are easily seen."""

import ast
import builtins
import pathlib
import unittest

PACKAGE = pathlib.Path(__file__).resolve().parent.parent / "criermoot"
FILES = sorted(PACKAGE.rglob("*.py"))
CALLED = {
    "len", "range", "enumerate", "zip", "min", "max", "sum", "abs", "sorted", "reversed", "int", "str", "bool", "list",
    "tuple", "dict", "set", "isinstance", "ord", "any", "all", "divmod", "ValueError", "property", "classmethod",
}
FREE = {"id", "object", "format", "_"}
BARRED = {
    "mro", "elements", "open", "input", "law", "version_info", "with_traceback", "add_note", "register", "type",
    "compile", "eval", "exec", "globals", "locals", "vars", "dir", "help", "exit", "super", "getattr", "setattr",
}
AT_ONCE = {"zip", "enumerate", "reversed", "range", "items", "keys", "values"}
BARRED_NODES = (ast.GeneratorExp, ast.Global, ast.AsyncFunctionDef, ast.Set, ast.SetComp, ast.Await, ast.Try)


def trees():
    return [(path, ast.parse(path.read_text())) for path in FILES]


def functions(tree):
    return [node for node in ast.walk(tree) if isinstance(node, ast.FunctionDef)]


def bound(function):
    """The parameters and local variables of a function."""
    names = [arg.arg for arg in ast.walk(function) if isinstance(arg, ast.arg)]
    return names + [node.id for node in ast.walk(function)
                    if isinstance(node, ast.Name) and isinstance(node.ctx, ast.Store)]


def is_decorator(decorator, function):
    """Whether a decorator makes a property of a function, the setter of the property of its name, or a class method."""
    return ast.unparse(decorator) in ("property", function.name + ".setter", "classmethod")


def is_generator(function):
    return any(isinstance(node, (ast.Yield, ast.YieldFrom)) for node in ast.walk(function))


class FormTest(unittest.TestCase):
    def test_files(self):
        self.assertTrue((PACKAGE / "__init__.py").exists())
        for path in PACKAGE.iterdir():
            self.assertTrue(path.suffix == ".py" or path.name == "__pycache__", path)
        self.assertLessEqual(len(FILES), 100)
        for path in FILES:
            lines = path.read_text().splitlines()
            self.assertTrue(path.read_text().isascii() and path.read_text().endswith("\n"), path)
            self.assertLessEqual(len(lines), 399, path)
            self.assertTrue(all(len(line) <= 120 and line.isprintable() and line == line.rstrip() for line in lines), path)

    def test_functions(self):
        for path, tree in trees():
            for function in functions(tree):
                self.assertLessEqual(function.end_lineno - function.lineno + 1, 40, (path, function.name))
                self.assertTrue(all(is_decorator(one, function) for one in function.decorator_list), (path, function.name))
                self.assertIsNotNone(ast.get_docstring(function) or function.name == "__init__", (path, function.name))

    def test_imports(self):
        defined = {path.stem: {getattr(node, "name", None) or node.targets[0].id for node in tree.body
                               if isinstance(node, (ast.FunctionDef, ast.ClassDef, ast.Assign))}
                   for path, tree in trees()}
        needs = {}
        for path, tree in trees():
            needs[path.stem] = []
            for node in ast.walk(tree):
                self.assertNotIsInstance(node, ast.Import)
                if isinstance(node, ast.ImportFrom):
                    package, _, module = node.module.partition(".")
                    self.assertEqual((package, node.level, node in tree.body), ("criermoot", 0, True), path)
                    self.assertTrue({alias.name for alias in node.names} <= defined[module], (path, module))
                    needs[path.stem].append(module)
        while needs:
            last = [module for module, others in needs.items() if not any(other in needs for other in others)]
            self.assertTrue(last, "imports in a ring")
            needs = {module: others for module, others in needs.items() if module not in last}

    def test_properties(self):
        """The name of a property is that of no attribute and of no other method."""
        names, attributes, methods, of_class = set(), set(), [], set()
        for _, tree in trees():
            for node in ast.walk(tree):
                if isinstance(node, ast.ClassDef):
                    told = [one for one in node.body if isinstance(one, ast.FunctionDef)]
                    of_class.update(one.name for one in told if "classmethod" in map(ast.unparse, one.decorator_list))
                    names.update(one.name for one in told if one.decorator_list and one.name not in of_class)
                    methods.extend(one.name for one in told if not one.decorator_list)
                if isinstance(node, ast.Attribute) and isinstance(node.ctx, ast.Store):
                    attributes.add(node.attr)
        self.assertEqual(names, {"disk", "done", "state", "last", "stamp", "view", "time"})
        self.assertEqual(of_class, {"woken"})
        self.assertFalse((names | of_class) & (attributes | set(methods)))
        self.assertFalse(attributes & set(methods))

    def test_generators(self):
        """No other function has the name of a generator, which the package itself does not use as a value."""
        told = [(path, function) for path, tree in trees() for function in functions(tree)]
        names = [function.name for _, function in told if is_generator(function)]
        self.assertEqual(sorted(names), ["play", "walk"])
        self.assertEqual(len([function for _, function in told if function.name in names]), 2)
        for path, tree in trees():
            for node in ast.walk(tree):
                if isinstance(node, ast.Call) and isinstance(node.func, (ast.Name, ast.Attribute)):
                    name = node.func.id if isinstance(node.func, ast.Name) else node.func.attr
                    self.assertNotIn(name, names, (path, node.lineno))

    def test_loops_leave_what_they_go_over(self):
        """Nothing that a loop goes over is changed in it by its name."""
        changing = {"append", "extend", "pop", "insert", "remove", "clear", "update", "setdefault", "reverse"}
        for path, tree in trees():
            for loop in ast.walk(tree):
                if not isinstance(loop, ast.For):
                    continue
                over = {ast.unparse(node) for node in ast.walk(loop.iter) if isinstance(node, (ast.Name, ast.Attribute, ast.Subscript))}
                for node in [inner for statement in loop.body for inner in ast.walk(statement)]:
                    if isinstance(node, ast.Call) and isinstance(node.func, ast.Attribute) and node.func.attr in changing:
                        self.assertNotIn(ast.unparse(node.func.value), over, (path, node.lineno))
                    if isinstance(node, (ast.Subscript, ast.Attribute)) and isinstance(node.ctx, (ast.Store, ast.Del)):
                        self.assertNotIn(ast.unparse(node.value if isinstance(node, ast.Subscript) else node), over, (path, node.lineno))

    def test_names(self):
        for path, tree in trees():
            taken = [node.name for node in tree.body if isinstance(node, ast.ClassDef)]
            taken += [alias.name for node in tree.body if isinstance(node, ast.ImportFrom) for alias in node.names]
            at_top = taken + [node.name for node in tree.body if isinstance(node, ast.FunctionDef)]
            at_top += [node.targets[0].id for node in tree.body if isinstance(node, ast.Assign)]
            self.assertEqual(len(at_top), len(set(at_top)), path)
            self.assertFalse((set(dir(builtins)) | BARRED) & set(at_top), path)
            for function in functions(tree):
                names = set(bound(function))
                self.assertFalse(names & set(taken), (path, function.name))
                self.assertFalse((names & (set(dir(builtins)) | BARRED)) - FREE, (path, function.name))
            for node in ast.walk(tree):
                if isinstance(node, ast.Attribute):
                    self.assertNotIn(node.attr, BARRED, path)

    def test_calls_of_builtins(self):
        for path, tree in trees():
            for node in ast.walk(tree):
                if isinstance(node, ast.Name) and isinstance(node.ctx, ast.Load) and node.id in dir(builtins):
                    self.assertIn(node.id, CALLED | FREE, (path, node.lineno))

    def test_statements(self):
        for path, tree in trees():
            for node in ast.walk(tree):
                if isinstance(node, ast.Try):
                    self.assertTrue(all(handler.type.id.startswith("Bad") or handler.type.id == "Fallen" for handler in node.handlers), path)
                    continue
                self.assertNotIsInstance(node, BARRED_NODES, path)
                if isinstance(node, ast.Constant):
                    self.assertNotIsInstance(node.value, (float, bytes, complex))
                    self.assertFalse(isinstance(node.value, str) and "%" in node.value, (path, node.lineno))
                if isinstance(node, ast.BinOp):
                    self.assertNotIsInstance(node.op, ast.Div, (path, node.lineno))

    def test_iterated_at_once(self):
        for path, tree in trees():
            for node in ast.walk(tree):
                if isinstance(node, (ast.Assign, ast.Return)) and isinstance(node.value, ast.Call):
                    called = node.value.func
                    name = called.id if isinstance(called, ast.Name) else called.attr
                    self.assertNotIn(name, AT_ONCE, (path, node.lineno))

    def test_sets_are_measured_only(self):
        for path, tree in trees():
            measured = [node.args[0] for node in ast.walk(tree) if isinstance(node, ast.Call)
                        and isinstance(node.func, ast.Name) and node.func.id in ("len", "sorted")]
            for node in ast.walk(tree):
                if isinstance(node, ast.Call) and isinstance(node.func, ast.Name) and node.func.id == "set":
                    self.assertIn(node, measured, (path, node.lineno))
