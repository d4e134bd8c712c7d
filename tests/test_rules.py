"""Rules of the language that can be read off the package's trees: names, imports, operators, sets, generators."""

import ast
import builtins
import pathlib
import unittest

PACKAGE = pathlib.Path(__file__).resolve().parent.parent / "uplines"
TREES = {path.stem: ast.parse(path.read_text()) for path in sorted(PACKAGE.glob("*.py"))}
METHODS_OF_BUILTINS = set("""
    append clear copy count endswith extend find get index insert isalnum isalpha isdigit islower isspace isupper
    items join keys ljust lower lstrip partition pop remove replace reverse rfind rjust rpartition rsplit rstrip
    setdefault split splitlines startswith strip update upper values zfill bit_length
""".split())
LET = METHODS_OF_BUILTINS | {"add", "discard"}
MODIFYING = set("append clear extend insert pop remove reverse setdefault update".split())
DOUBLE = set("""
    __init__ __eq__ __repr__ __str__ __len__ __enter__ __exit__ __call__ __iter__ __lt__ __le__ __gt__ __ge__ __ne__
    __add__ __radd__ __iadd__ __sub__ __rsub__ __isub__ __and__ __or__ __xor__ __lshift__ __rshift__ __neg__ __pos__
    __invert__ __abs__ __bool__ __contains__ __getitem__ __setitem__
""".split())
# Doctest leaves an underscore among the builtins.
BUILTINS = set(vars(builtins)) - {"_"}
BARRED = set("""
    register mro elements open input law version_info with_traceback add_note attrgetter breakpoint builtins compile
    copyright credits delattr dir eval exec exit gc getattr globals hasattr help id importlib license locals
    methodcaller os quit setattr super type vars sys typing enum namedtuple
""".split())


def nodes(kind):
    """All nodes of a kind, with a word that tells where they stand."""
    for name, tree in TREES.items():
        for node in ast.walk(tree):
            if isinstance(node, kind):
                yield node, f"{name}, row {getattr(node, 'lineno', 0)}"


def classes():
    return {node.name: node for node, _ in nodes(ast.ClassDef)}


def methods(kind):
    return [node for node in kind.body if isinstance(node, ast.FunctionDef)]


def is_property(method):
    return any(isinstance(over, ast.Name) and over.id == "property" for over in method.decorator_list)


def bound_names(function):
    """All parameters and local variables of a function."""
    found = {told.arg for told in ast.walk(function) if isinstance(told, ast.arg)}
    return found | {node.id for node in ast.walk(function)
                    if isinstance(node, ast.Name) and isinstance(node.ctx, ast.Store)}


def called(tree):
    """The names of all functions and methods that are called in a tree."""
    for node in ast.walk(tree):
        if isinstance(node, ast.Call):
            yield node.func.id if isinstance(node.func, ast.Name) else node.func.attr


def is_plain(value):
    """Whether what a name at module level is given is a constant, or a tuple or a dict of constants."""
    if isinstance(value, ast.Dict):
        return all(isinstance(part, ast.Constant) for part in value.keys + value.values)
    parts = value.elts if isinstance(value, ast.Tuple) else [value]
    return all(isinstance(part, ast.Constant) for part in parts)


class NameTests(unittest.TestCase):
    def test_module_level(self):
        for name, tree in TREES.items():
            bound = []
            for at, node in enumerate(tree.body):
                is_text = at == 0 and isinstance(node, ast.Expr) and isinstance(node.value, ast.Constant)
                self.assertTrue(is_text or isinstance(
                    node, (ast.ImportFrom, ast.FunctionDef, ast.ClassDef, ast.Assign)), f"{name}, {node.lineno}")
                if isinstance(node, ast.ImportFrom):
                    bound += [word.name for word in node.names]
                elif isinstance(node, ast.Assign):
                    self.assertTrue(is_plain(node.value), f"{name}, {node.lineno}")
                    bound += [target.id for target in node.targets]
                elif not is_text:
                    bound.append(node.name)
            self.assertEqual(len(bound), len(set(bound)), name)

    def test_local_names(self):
        for name, tree in TREES.items():
            taken = {word.name for node in tree.body if isinstance(node, ast.ImportFrom) for word in node.names}
            taken |= {node.name for node in tree.body if isinstance(node, ast.ClassDef)}
            for node in ast.walk(tree):
                if isinstance(node, ast.FunctionDef):
                    self.assertEqual(bound_names(node) & (taken | BUILTINS | BARRED), set(), name)

    def test_all_names(self):
        for node, place in nodes((ast.FunctionDef, ast.ClassDef)):
            self.assertFalse(node.name in BARRED or node.name in BUILTINS, place)
            if node.name.startswith("__"):
                self.assertIn(node.name, DOUBLE, place)
        for node, place in nodes(ast.Attribute):
            self.assertNotIn(node.attr, BARRED, place)

    def test_attributes_are_no_methods(self):
        stored = {node.attr for node, _ in nodes(ast.Attribute) if isinstance(node.ctx, ast.Store)}
        own = {method.name for kind in classes().values() for method in methods(kind)}
        self.assertEqual(stored & own, set())
        for node, place in nodes(ast.Attribute):
            if isinstance(node.ctx, ast.Load):
                self.assertTrue(node.attr in stored | own | LET | {"setter"} or node.attr.isupper(), place)

    def test_properties_are_no_methods(self):
        told = {method.name for kind in classes().values() for method in methods(kind) if is_property(method)}
        plain = {method.name for kind in classes().values() for method in methods(kind) if not method.decorator_list}
        self.assertEqual(told & (plain | METHODS_OF_BUILTINS), set())

    def test_only_methods_that_are_let(self):
        own = {method.name for kind in classes().values() for method in methods(kind)}
        for node, place in nodes(ast.Call):
            if isinstance(node.func, ast.Attribute):
                self.assertIn(node.func.attr, own | LET, place)

    def test_strings(self):
        for node, place in nodes(ast.Constant):
            if isinstance(node.value, str):
                self.assertNotIn("%", node.value, place)


class ImportTests(unittest.TestCase):
    def imports(self):
        return {name: [(node.module.removeprefix("uplines."), [word.name for word in node.names])
                       for node in tree.body if isinstance(node, ast.ImportFrom)] for name, tree in TREES.items()}

    def test_from_the_very_file(self):
        for name, told in self.imports().items():
            for module, words in told:
                defined = {getattr(node, "name", None) for node in TREES[module].body}
                defined |= {target.id for node in TREES[module].body if isinstance(node, ast.Assign)
                            for target in node.targets}
                self.assertLessEqual(set(words), defined, name)

    def test_no_rings(self):
        left = {name: {module for module, _ in told} for name, told in self.imports().items()}
        while left:
            free = [name for name in left if not left[name] & set(left)]
            self.assertTrue(free, f"a ring among {sorted(left)}")
            for name in free:
                del left[name]

    def test_all_are_used(self):
        for name, told in self.imports().items():
            used = {node.id for node in ast.walk(TREES[name]) if isinstance(node, ast.Name)}
            self.assertLessEqual({word for _, words in told for word in words}, used, name)


class FormTests(unittest.TestCase):
    def test_what_is_not_used(self):
        barred = (ast.AugAssign, ast.GeneratorExp, ast.Global, ast.AsyncFunctionDef, ast.Await, ast.AnnAssign,
                  ast.YieldFrom, ast.Lambda, ast.Match, ast.NamedExpr, ast.Import, ast.With, ast.Nonlocal, ast.Assert)
        for node, place in nodes(barred):
            self.fail(f"{place}: {node}")

    def test_tries(self):
        """Only errors of the package are caught, by name; in a finally an attribute is given a name's value back."""
        own = {node.name for node in TREES["errors"].body if isinstance(node, ast.ClassDef)}
        for node, place in nodes(ast.Try):
            for handler in node.handlers:
                told = handler.type.elts if isinstance(handler.type, ast.Tuple) else [handler.type]
                self.assertLessEqual({kind.id for kind in told}, own, place)
            for row in node.finalbody:
                self.assertIsInstance(row, ast.Assign, place)
                self.assertIsInstance(row.targets[0], ast.Attribute, place)
                self.assertIsInstance(row.value, ast.Name, place)

    def test_raised_on_the_spot(self):
        own = {node.name for node in TREES["errors"].body if isinstance(node, ast.ClassDef)} | {"TypeError"}
        for node, place in nodes(ast.Raise):
            self.assertTrue(isinstance(node.exc, ast.Call) and node.exc.func.id in own, place)
            self.assertTrue(node.cause is None or isinstance(node.cause, ast.Name), place)

    def test_stars(self):
        """Behind a star in a call stands a name; nothing follows it."""
        for node, place in nodes(ast.Call):
            for at, value in enumerate(node.args):
                if isinstance(value, ast.Starred):
                    self.assertIsInstance(value.value, ast.Name, place)
                    self.assertEqual([at, node.keywords], [len(node.args) - 1, []], place)

    def test_no_functions_in_functions(self):
        for function, place in nodes(ast.FunctionDef):
            inner = [node for node in ast.walk(function) if isinstance(node, ast.FunctionDef)]
            self.assertEqual(len(inner), 1, place)

    def test_is(self):
        for node, place in nodes(ast.Compare):
            for operator, right in zip(node.ops, node.comparators):
                if isinstance(operator, (ast.Is, ast.IsNot)):
                    self.assertTrue(isinstance(right, ast.Constant) and right.value is None, place)

    def test_sets(self):
        let = set()
        for node, _ in nodes(ast.Call):
            if isinstance(node.func, ast.Name) and node.func.id in ("len", "sorted"):
                let |= {id(value) for value in node.args}
        for node, _ in nodes(ast.Assign):
            if len(node.targets) == 1 and isinstance(node.targets[0], ast.Name):
                let.add(id(node.value))
        for node, place in nodes((ast.Set, ast.SetComp, ast.Call)):
            if not isinstance(node, ast.Call) or isinstance(node.func, ast.Name) and node.func.id == "set":
                self.assertIn(id(node), let, place)

    def test_no_sort(self):
        for node, place in nodes(ast.Attribute):
            self.assertNotIn(node.attr, ("sort", "format"), place)

    def test_iterated_at_once(self):
        let = set()
        for node, _ in nodes((ast.For, ast.comprehension)):
            let.add(id(node.iter))
        for node, _ in nodes(ast.Call):
            if isinstance(node.func, ast.Name):
                let |= {id(value) for value in node.args[:1] if node.func.id in
                        ("list", "tuple", "dict", "sorted", "sum", "enumerate", "zip")}
        for node, place in nodes(ast.Call):
            name = node.func.id if isinstance(node.func, ast.Name) else node.func.attr
            if name in ("zip", "enumerate", "reversed", "range", "items", "keys", "values"):
                self.assertIn(id(node), let, place)


class ClassTests(unittest.TestCase):
    def test_exits(self):
        """What stands in an exit is the assignment of an attribute, and asks of the error only whether there is one."""
        exits = [method for kind in classes().values() for method in methods(kind) if method.name == "__exit__"]
        self.assertEqual(len(exits), 3)
        for method in exits:
            for node in ast.walk(method):
                if isinstance(node, ast.Assign):
                    self.assertIsInstance(node.value, ast.Attribute)
                self.assertNotIsInstance(node, (ast.Call, ast.BinOp, ast.Subscript, ast.Return))

    def test_what_changes_objects_is_not_called_by_name(self):
        """Sheet.level tells, Grower.level changes, so that neither is called within the package."""
        for tree in TREES.values():
            self.assertNotIn("level", set(called(tree)))

    def test_set_properties(self):
        """Not each class with a sheet lets it be set, so the package never sets one."""
        for node, place in nodes(ast.Attribute):
            self.assertFalse(isinstance(node.ctx, ast.Store) and node.attr in ("sheet", "pair"), place)

    def test_length(self):
        for kind in classes().values():
            for method in methods(kind):
                if method.name == "__len__":
                    told = method.body[-1].value
                    self.assertTrue(isinstance(told, ast.Call) and told.func.id == "len", kind.name)

    def test_items_and_iteration(self):
        for kind in classes().values():
            told = {method.name: method for method in methods(kind)}
            if "__getitem__" in told:
                self.assertIn("__iter__", told, kind.name)
            if "__iter__" in told:
                self.assertEqual(len(told["__iter__"].body), 1)

    def test_reading_changes_nothing(self):
        """Nothing that an operator or a property runs stores at an object, or changes what it did not make itself."""
        own = {}
        for node, _ in nodes(ast.FunctionDef):
            own.setdefault(node.name, []).append(node)
        for kind in classes().values():
            own.setdefault(kind.name, []).extend(method for method in methods(kind) if method.name == "__init__")
        waiting = [method for kind in classes().values() for method in methods(kind)
                   if is_property(method) or method.name in DOUBLE - {"__init__", "__iadd__", "__enter__", "__exit__",
                                                                      "__call__"}]
        done = []
        while waiting:
            function = waiting.pop()
            if function not in done:
                done.append(function)
                self.changes_nothing(function)
                # By the name alone: whatever the package calls so may be meant.
                waiting += [other for name in called(function) for other in own.get(name, [])]
        self.assertGreater(len(done), 60)

    def changes_nothing(self, function):
        made = {}
        for node in ast.walk(function):
            if isinstance(node, ast.Assign) and isinstance(node.targets[0], ast.Name):
                made.setdefault(node.targets[0].id, []).append(node.value)
        fresh = {name for name, values in made.items() if all(
            isinstance(value, (ast.List, ast.Dict, ast.ListComp, ast.DictComp))
            or isinstance(value, ast.Call) and isinstance(value.func, ast.Name)
            and value.func.id in ("list", "dict", "set", "sorted") for value in values)}
        for node in ast.walk(function):
            if isinstance(node, ast.Attribute) and isinstance(node.ctx, ast.Store):
                self.assertEqual(function.name, "__init__", node.attr)
            if isinstance(node, ast.Subscript) and isinstance(node.ctx, (ast.Store, ast.Del)):
                self.assertTrue(isinstance(node.value, ast.Name) and node.value.id in fresh, function.name)
            if isinstance(node, ast.Call) and isinstance(node.func, ast.Attribute):
                if node.func.attr in MODIFYING | {"add", "discard"}:
                    held = node.func.value
                    held = held.value if isinstance(held, ast.Subscript) else held
                    # Items that a dict of its own is given on the spot are its own, too.
                    if isinstance(held, ast.Call) and isinstance(held.func, ast.Attribute):
                        self.assertEqual(held.func.attr, "setdefault", function.name)
                        held = held.func.value
                    self.assertTrue(isinstance(held, ast.Name) and held.id in fresh, function.name)

    def test_generators(self):
        yielding = [node for node, _ in nodes(ast.FunctionDef)
                    if any(isinstance(inner, ast.Yield) for inner in ast.walk(node))]
        names = [node.name for node, _ in nodes(ast.FunctionDef)]
        for node in yielding:
            self.assertEqual(names.count(node.name), 1, node.name)
            self.assertNotIn(node.name, METHODS_OF_BUILTINS)
        for tree in TREES.values():
            self.assertEqual(set(called(tree)) & {node.name for node in yielding}, set())


if __name__ == "__main__":
    unittest.main()
