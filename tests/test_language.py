"""Some rules of the language that the package keeps to, as far as its code shows them easily."""

import ast
import builtins
import pathlib
import unittest

PACKAGE = pathlib.Path(__file__).resolve().parent.parent / "fairshown"

BUILTINS = {
    "len", "range", "enumerate", "zip", "min", "max", "sum", "abs", "sorted", "reversed", "int", "str", "bool", "bytes",
    "list", "tuple", "dict", "set", "frozenset", "isinstance", "ord", "repr", "any", "all", "divmod", "ValueError",
    "TypeError", "iter",
}
METHODS = {
    "append", "clear", "copy", "count", "endswith", "extend", "find", "get", "index", "insert", "isdigit", "items",
    "join", "keys", "ljust", "lower", "partition", "pop", "remove", "replace", "reverse", "rfind", "rjust", "split",
    "startswith", "strip", "update", "upper", "values", "zfill", "__init__",
}
STATEMENTS = (ast.Global, ast.AsyncFunctionDef, ast.Await, ast.Match, ast.Lambda, ast.GeneratorExp, ast.Set)
ARITHMETIC = {"__add__", "__and__"}
OPERATORS = {"__contains__", "__getitem__", "__eq__", "__len__", "__iter__", "__str__"} | ARITHMETIC
SPECIAL = OPERATORS | {"__init__", "__call__", "__enter__", "__exit__"}
MUTATORS = {"append", "clear", "extend", "insert", "pop", "remove", "reverse", "setdefault", "update", "sort", "add"}
MADE_HERE = (ast.List, ast.Dict, ast.ListComp)


def files():
    return sorted(PACKAGE.rglob("*.py"))


def trees():
    return [(path, ast.parse(path.read_text())) for path in files()]


def functions(tree):
    return [node for node in ast.walk(tree) if isinstance(node, ast.FunctionDef)]


def classes():
    return [node for _, tree in trees() for node in tree.body if isinstance(node, ast.ClassDef)]


def methods():
    return [node for made in classes() for node in made.body if isinstance(node, ast.FunctionDef)]


def decorators(function):
    return [node.id for node in function.decorator_list]


def is_property(function):
    return decorators(function) == ["property"]


def is_of_the_class(function):
    return decorators(function) in (["staticmethod"], ["classmethod"])


def is_generator(function):
    return any(isinstance(node, (ast.Yield, ast.YieldFrom)) for node in ast.walk(function))


def statements(function):
    """The statements of a function without its docstring."""
    first = function.body[0]
    spoken = isinstance(first, ast.Expr) and isinstance(first.value, ast.Constant)
    return function.body[1:] if spoken else function.body


def called(function):
    """The names of all functions that a function calls, and of all attributes that it reads, which may be methods."""
    names = {node.id for node in ast.walk(function) if isinstance(node, ast.Name)}
    return names | {node.attr for node in ast.walk(function) if isinstance(node, ast.Attribute)}


def is_made_here(value):
    if isinstance(value, ast.Call) and isinstance(value.func, ast.Name):
        return value.func.id in ("list", "dict", "sorted")
    return isinstance(value, MADE_HERE)


def made_here(function):
    """The local names that are assigned nothing but lists and dicts that the function itself creates."""
    made, others = set(), set()
    for node in ast.walk(function):
        if isinstance(node, ast.Assign):
            for target in node.targets:
                names = {part.id for part in ast.walk(target) if isinstance(part, ast.Name)}
                if isinstance(target, ast.Name):
                    (made if is_made_here(node.value) else others).update(names)
    return made - others


def changes(function):
    """The statements of a function that change what it did not create itself."""
    own = made_here(function)
    for node in ast.walk(function):
        if isinstance(node, (ast.Attribute, ast.Subscript)) and not isinstance(node.ctx, ast.Load):
            if not (isinstance(node, ast.Subscript) and isinstance(node.value, ast.Name) and node.value.id in own):
                yield ast.unparse(node)
        if isinstance(node, ast.Call) and isinstance(node.func, ast.Attribute) and node.func.attr in MUTATORS:
            if not (isinstance(node.func.value, ast.Name) and node.func.value.id in own):
                yield ast.unparse(node)
        if isinstance(node, ast.AugAssign):
            # A sum of a local variable and a literal integer is all that is allowed everywhere.
            if not (isinstance(node.target, ast.Name) and isinstance(node.value, ast.Constant)):
                yield ast.unparse(node)


class Language(unittest.TestCase):
    def test_sizes_and_characters(self):
        for path in files():
            lines = path.read_text().split("\n")
            self.assertLessEqual(len(lines), 399, path)
            for line in lines:
                self.assertLessEqual(len(line), 120, path)
                self.assertTrue(all(" " <= sign <= "~" and sign != "%" for sign in line), (path, line))

    def test_functions_are_small_and_plain(self):
        for path, tree in trees():
            for node in functions(tree):
                self.assertLessEqual(node.end_lineno - node.lineno + 1, 40, (path, node.name))
                plain = node.decorator_list == [] or is_property(node) or is_of_the_class(node)
                self.assertTrue(plain, (path, node.name))
                nested = [other for other in functions(node) if other is not node]
                self.assertEqual(nested, [], (path, node.name))

    def test_special_methods(self):
        for node in methods():
            if node.name.startswith("__"):
                self.assertIn(node.name, SPECIAL)
            if node.name in ("__eq__", "__len__", "__iter__"):
                self.assertEqual(len(statements(node)), 1, node.name)
            if node.name in ("__eq__", "__len__", "__str__"):
                self.assertIsInstance(node.body[-1], ast.Return)
            if node.name == "__len__":
                self.assertEqual(node.body[-1].value.func.id, "len")
            if node.name in ("__eq__", "__str__"):
                self.assertFalse([part for part in ast.walk(node) if isinstance(part, (ast.Assign, ast.AugAssign))])
            if node.name in ARITHMETIC:
                self.assertEqual([part.arg for part in node.args.args], ["self", "other"])

    def test_what_str_returns(self):
        """A string, an f-string, a call of str or the join of a literal, and nothing is added up."""
        for node in methods():
            if node.name == "__str__":
                self.assertFalse([part for part in ast.walk(node) if isinstance(part, ast.BinOp)])
                for part in ast.walk(node):
                    if isinstance(part, ast.Return) and isinstance(part.value, ast.Call):
                        self.assertIn(ast.unparse(part.value.func), ("str", "' / '.join"))
                    elif isinstance(part, ast.Return):
                        self.assertIsInstance(part.value, (ast.Constant, ast.JoinedStr))

    def test_classes_with_items_are_not_iterated_over_by_chance(self):
        for made in classes():
            names = [node.name for node in made.body if isinstance(node, ast.FunctionDef)]
            self.assertTrue("__getitem__" not in names or "__iter__" in names, made.name)
            self.assertEqual(len(names), len(set(names)), made.name)

    def test_iter_stands_in_iter_alone(self):
        for path, tree in trees():
            for node in functions(tree):
                if "iter" in called(node):
                    self.assertEqual(node.name, "__iter__", path)
                    self.assertIsInstance(node.body[-1].value.args[0], ast.Attribute)

    def test_properties_and_operators_change_nothing(self):
        by_name = {}
        for _, tree in trees():
            for node in functions(tree):
                by_name.setdefault(node.name, []).append(node)
        for made in classes():
            # Who calls a class calls its __init__, which changes the new object alone.
            by_name[made.name] = [node for node in made.body if getattr(node, "name", "") == "__init__"]
        waiting = [node for node in methods() if node.name in OPERATORS or is_property(node)]
        reached = []
        while waiting:
            node = waiting.pop()
            if node not in reached:
                reached.append(node)
                waiting += [other for name in called(node) for other in by_name.get(name, [])
                            if name not in METHODS and not name.startswith("__")]
        self.assertGreater(len(reached), 40)
        for node in reached:
            found = list(changes(node))
            if node.name == "__init__":
                self.assertTrue(all(change.startswith("self.") for change in found), found)
            else:
                self.assertEqual(found, [], node.name)

    def test_exit_only_assigns(self):
        for node in methods():
            if node.name == "__exit__":
                for line in statements(node):
                    self.assertIsInstance(line, ast.Assign)
                    self.assertIsInstance(line.targets[0], ast.Attribute)
                    self.assertIsInstance(line.value, (ast.Attribute, ast.Name))

    def test_names_of_properties_methods_and_generators(self):
        properties = {node.name for node in methods() if is_property(node)}
        of_classes = {node.name for node in methods() if is_of_the_class(node)}
        plain = {node.name for node in methods() if not is_property(node) and not is_of_the_class(node)}
        values = {line.targets[0].id for made in classes() for line in made.body if isinstance(line, ast.Assign)}
        stored = {node.attr for _, tree in trees() for node in ast.walk(tree)
                  if isinstance(node, ast.Attribute) and isinstance(node.ctx, ast.Store)}
        self.assertEqual(properties & (plain | values | stored), set())
        self.assertEqual(plain & (values | stored), set())
        self.assertEqual(of_classes & (plain | properties | values | stored), set())
        everywhere = [node for _, tree in trees() for node in functions(tree)]
        generators = {node.name for node in everywhere if is_generator(node)}
        for node in everywhere:
            self.assertTrue(node.name not in generators or is_generator(node), node.name)
        self.assertEqual(generators & METHODS, set())
        self.assertNotIn("_record", {name.rstrip("0123456789_") for name in stored})

    def test_class_and_static_methods(self):
        for node in methods():
            if is_of_the_class(node):
                self.assertFalse(is_generator(node), node.name)
                self.assertNotIn("super", called(node))
            if decorators(node) == ["classmethod"]:
                self.assertEqual(node.args.args[0].arg, "cls")

    def test_a_base_class_is_asked_for_its_init_alone(self):
        names = {made.name for made in classes()}
        for made in classes():
            for node in ast.walk(made):
                if isinstance(node, ast.Attribute) and isinstance(node.value, ast.Name) and node.value.id in names:
                    self.assertTrue(node.attr == "__init__" or node.attr.isupper(), (made.name, node.attr))

    def test_own_errors_alone_are_caught(self):
        errors = {node.name for path, tree in trees() if path.stem == "errors" for node in tree.body
                  if isinstance(node, ast.ClassDef)}
        for path, tree in trees():
            for node in ast.walk(tree):
                if isinstance(node, ast.Try):
                    self.assertEqual(node.finalbody, [], path)
                    self.assertTrue(all(handler.type.id in errors for handler in node.handlers), path)

    def test_imports(self):
        for path, tree in trees():
            for node in tree.body:
                self.assertNotIsInstance(node, ast.Import, path)
                if isinstance(node, ast.ImportFrom):
                    self.assertTrue(node.module.startswith("fairshown."), path)
                    self.assertTrue(all(alias.asname is None and alias.name != "*" for alias in node.names), path)

    def test_module_level(self):
        for path, tree in trees():
            for node in tree.body:
                self.assertIsInstance(node, (ast.ImportFrom, ast.FunctionDef, ast.ClassDef, ast.Assign, ast.Expr), path)
                if isinstance(node, ast.Expr):
                    self.assertIsInstance(node.value, ast.Constant, path)

    def test_names_that_are_bound_once(self):
        for path, tree in trees():
            names = [alias.name for node in tree.body if isinstance(node, ast.ImportFrom) for alias in node.names]
            names += [node.name for node in tree.body if isinstance(node, (ast.FunctionDef, ast.ClassDef))]
            self.assertEqual(len(names), len(set(names)), path)
            taken = {node.id for node in ast.walk(tree) if isinstance(node, ast.Name)
                     and isinstance(node.ctx, ast.Store)}
            taken |= {node.arg for node in ast.walk(tree) if isinstance(node, ast.arg)}
            self.assertEqual(taken & (set(names) | set(dir(builtins))), set(), path)

    def test_what_is_called(self):
        for path, tree in trees():
            own = {node.name for node in ast.walk(tree) if isinstance(node, (ast.FunctionDef, ast.ClassDef))}
            own |= {alias.name for node in tree.body if isinstance(node, ast.ImportFrom) for alias in node.names}
            for node in ast.walk(tree):
                if isinstance(node, ast.Call) and isinstance(node.func, ast.Name):
                    self.assertIn(node.func.id, own | BUILTINS, path)
                elif isinstance(node, ast.Call):
                    self.assertIn(node.func.attr, METHODS | {method.name for method in methods()}, path)

    def test_no_statement_or_value_that_is_not_needed(self):
        for path, tree in trees():
            for node in ast.walk(tree):
                self.assertNotIsInstance(node, STATEMENTS, path)
                if isinstance(node, ast.Constant):
                    self.assertNotIsInstance(node.value, (float, complex), path)
                if isinstance(node, ast.BinOp):
                    self.assertNotIsInstance(node.op, ast.Div, path)

    def test_no_imports_in_a_circle(self):
        needs = {path.stem: {node.module.split(".")[1] for node in tree.body if isinstance(node, ast.ImportFrom)}
                 for path, tree in trees()}
        while needs:
            free = [name for name, others in needs.items() if not others & set(needs)]
            self.assertNotEqual(free, [], needs)
            needs = {name: others for name, others in needs.items() if name not in free}


if __name__ == "__main__":
    unittest.main()
