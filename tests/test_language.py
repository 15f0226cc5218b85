"""Rules for the files of the package that can be seen file by file: names, sizes, characters and imports."""

import ast
import builtins
import re
import unittest
from pathlib import Path

PACKAGE = Path(__file__).resolve().parent.parent / "pagewright"
FILES = sorted(PACKAGE.rglob("*.py"))
LIBRARY = {"heapq", "math", "itertools", "collections", "__future__"}


class Files(unittest.TestCase):
    def test_the_package_holds_nothing_else(self):
        for path in PACKAGE.rglob("*"):
            if "__pycache__" not in path.parts:
                with self.subTest(path.name):
                    if path.is_dir():
                        self.assertTrue((path / "__init__.py").exists())
                    else:
                        self.assertRegex(path.name, r"^[a-z0-9_]+\.py$")

    def test_sizes_and_characters(self):
        for path in FILES:
            source = path.read_bytes()
            lines = source.split(b"\n")
            with self.subTest(path.name):
                self.assertLess(len(lines), 400)
                self.assertLessEqual(max([len(line) for line in lines]), 120)
                self.assertTrue(all([code == 10 or 32 <= code <= 126 for code in source]))

    def test_sizes_of_functions(self):
        for path in FILES:
            for node in ast.walk(ast.parse(path.read_text())):
                if isinstance(node, ast.FunctionDef):
                    with self.subTest(path.name, function=node.name):
                        self.assertLessEqual(node.end_lineno - node.lineno + 1, 40)

    def test_imports_come_from_the_defining_file(self):
        for path in FILES:
            for node in ast.walk(ast.parse(path.read_text())):
                self.assertTrue(path.name == "__main__.py" or not isinstance(node, ast.Import))
                if isinstance(node, ast.ImportFrom) and node.module not in LIBRARY:
                    with self.subTest(path.name, module=node.module):
                        file = PACKAGE.parent / (node.module.replace(".", "/") + ".py")
                        self.check_defined(file, [name.name for name in node.names])

    def test_imports_make_no_rings(self):
        imported = {}
        for path in FILES:
            name = ".".join(path.relative_to(PACKAGE.parent).with_suffix("").parts)
            nodes = ast.walk(ast.parse(path.read_text()))
            imported[name] = {node.module for node in nodes if isinstance(node, ast.ImportFrom)} - LIBRARY
        while imported:
            free = [name for name, others in imported.items() if not others & set(imported)]
            self.assertTrue(free, sorted(imported))
            for name in free:
                del imported[name]

    def test_names_of_properties_are_those_of_no_method(self):
        properties, methods = set(), set()
        for path in FILES:
            for node in ast.walk(ast.parse(path.read_text())):
                if isinstance(node, ast.ClassDef):
                    for method in [inner for inner in node.body if isinstance(inner, ast.FunctionDef)]:
                        told = [ast.unparse(decorator) for decorator in method.decorator_list]
                        (properties if "property" in told else methods).add(method.name)
        self.assertEqual(properties & methods, set())

    def check_defined(self, file, names):
        defined = set()
        for node in ast.parse(file.read_text()).body:
            if isinstance(node, (ast.FunctionDef, ast.ClassDef)):
                defined.add(node.name)
            elif isinstance(node, ast.Assign):
                defined.update([target.id for target in node.targets])
            elif isinstance(node, ast.AnnAssign):
                defined.add(node.target.id)
        self.assertLessEqual(set(names), defined)


MODIFYING = {"append", "clear", "extend", "insert", "pop", "remove", "reverse", "setdefault", "update", "add", "discard"}
METHODS = MODIFYING | set("""copy count endswith find get index isalnum isalpha isdigit islower isspace isupper items join keys ljust lower lstrip partition
replace rfind rjust rpartition rsplit rstrip split splitlines startswith strip upper values zfill bit_length removeprefix removesuffix""".split())
CALLED = set("""len range enumerate zip min max sum abs sorted reversed int str bool list tuple dict set isinstance ord repr any all divmod super iter
next property classmethod staticmethod""".split())
BARRED = set("""type typing typing_extensions enum Enum IntEnum StrEnum Flag IntFlag Generic Protocol ABC ABCMeta namedtuple NamedTuple TypedDict
TYPE_CHECKING abstractmethod dataclass overload contextmanager metaclass""".split())
NO_ATTRIBUTES = {"items", "keys", "values", "pop", "update", "append", "clear", "extend", "insert", "remove", "reverse", "setdefault", "sort", "args",
                 "encode", "decode", "hex", "fromhex", "format", "format_map", "mro"}
UNUSED = {"register", "mro", "elements", "open", "input", "law", "version_info", "with_traceback", "add_note"}


def own_names():
    """The functions and the methods of the package, and the errors and classes."""
    functions, methods, classes, assigned = set(), set(), set(), set()
    for path in FILES:
        for node in ast.walk(ast.parse(path.read_text())):
            if isinstance(node, ast.ClassDef):
                classes.add(node.name)
                methods.update([inner.name for inner in node.body if isinstance(inner, ast.FunctionDef)])
            elif isinstance(node, ast.FunctionDef):
                functions.add(node.name)
            elif isinstance(node, ast.Attribute) and isinstance(node.ctx, ast.Store):
                assigned.add(node.attr)
    return functions - methods, methods, classes, assigned


def names_of(function):
    """The parameters and local variables of a function."""
    given = function.args
    found = {name.arg for name in [*given.args, *given.kwonlyargs, *filter(None, (given.vararg, given.kwarg))]}
    return found | {node.id for node in ast.walk(function) if isinstance(node, ast.Name) and isinstance(node.ctx, ast.Store)}


def aliases(function):
    """For each plain variable the texts of what it is assigned, where this is a name or an attribute."""
    found = {}
    for node in ast.walk(function):
        if isinstance(node, ast.Assign) and isinstance(node.value, (ast.Name, ast.Attribute)):
            for target in node.targets:
                found.setdefault(ast.unparse(target), set()).add(ast.unparse(node.value))
                found.setdefault(ast.unparse(node.value), set()).add(ast.unparse(target))
    return found


def modified(nodes):
    """The texts of what some nodes modify."""
    found = set()
    for node in [inner for outer in nodes for inner in ast.walk(outer)]:
        if isinstance(node, ast.Call) and isinstance(node.func, ast.Attribute) and node.func.attr in MODIFYING:
            found.add(ast.unparse(node.func.value))
        if isinstance(node, (ast.Subscript, ast.Attribute)) and isinstance(node.ctx, (ast.Store, ast.Del)):
            found.add(ast.unparse(node.value) if isinstance(node, ast.Subscript) else ast.unparse(node))
        if isinstance(node, ast.AugAssign):
            found.add(ast.unparse(node.target))
    return found


def walked(node):
    """The texts of the names and attributes that a loop walks."""
    if isinstance(node, (ast.Name, ast.Attribute, ast.Subscript)):
        return {ast.unparse(node)}
    if isinstance(node, ast.Call) and isinstance(node.func, ast.Name) and node.func.id in ("enumerate", "zip", "reversed"):
        return {text for inner in node.args for text in walked(inner)}
    if isinstance(node, ast.Call) and isinstance(node.func, ast.Attribute) and node.func.attr in ("items", "keys", "values", "get"):
        return walked(node.func.value)
    return set()


class Forms(unittest.TestCase):
    """Forms that ../shared/LANGUAGE.md asks for, as far as they can be seen in a file."""

    def nodes(self, *kinds):
        for path in FILES:
            for node in ast.walk(ast.parse(path.read_text())):
                if isinstance(node, kinds):
                    yield f"{path.name} row {getattr(node, 'lineno', 0)}", node

    def test_what_reversed_takes(self):
        for place, call in self.nodes(ast.Call):
            if ast.unparse(call.func) == "reversed":
                with self.subTest(place):
                    self.assertIsInstance(call.args[0], (ast.Call, ast.List, ast.Tuple))
                    if isinstance(call.args[0], ast.Call):
                        self.assertIn(ast.unparse(call.args[0].func), ("list", "tuple", "sorted", "range"))

    def test_what_a_loop_walks_is_not_changed_in_it(self):
        for place, function in self.nodes(ast.FunctionDef):
            same = aliases(function)
            for loop in [node for node in ast.walk(function) if isinstance(node, ast.For)]:
                told = walked(loop.iter)
                told |= {other for text in told for other in same.get(text, ())}
                with self.subTest(place, loop=loop.lineno):
                    self.assertEqual(told & modified(loop.body), set())

    def test_no_generator_expressions(self):
        self.assertEqual([place for place, _ in self.nodes(ast.GeneratorExp)], [])

    def test_calls(self):
        functions, methods, classes, _ = own_names()
        for place, call in self.nodes(ast.Call):
            with self.subTest(place):
                for starred in [one for one in call.args if isinstance(one, ast.Starred)]:
                    self.assertIsInstance(starred.value, (ast.Name, ast.Attribute, ast.List, ast.Tuple))
                if isinstance(call.func, ast.Attribute):
                    self.assertTrue(call.func.attr in METHODS | methods, call.func.attr)
                elif call.func.id in CALLED:
                    for keyword in call.keywords:
                        self.assertIn((call.func.id, keyword.arg), {(name, "key") for name in ("sorted", "min", "max")} | {
                            ("min", "default"), ("max", "default"), ("sum", "start"), ("enumerate", "start"), ("sorted", "reverse")})

    def test_comparisons(self):
        for place, node in self.nodes(ast.Compare):
            for operator, right in zip(node.ops, node.comparators):
                if isinstance(operator, (ast.Is, ast.IsNot)):
                    with self.subTest(place):
                        self.assertIn(ast.unparse(right), ("None", "True", "False"))

    def test_names(self):
        functions, methods, classes, assigned = own_names()
        for path in FILES:
            tree = ast.parse(path.read_text())
            bound = {name.name for node in tree.body if isinstance(node, ast.ImportFrom) for name in node.names}
            bound |= {node.name for node in tree.body if isinstance(node, ast.ClassDef)}
            for function in [node for node in ast.walk(tree) if isinstance(node, ast.FunctionDef)]:
                with self.subTest(path.name, function=function.name):
                    self.assertEqual(names_of(function) & (bound | set(dir(builtins)) | UNUSED), set())
            self.assertEqual(assigned & NO_ATTRIBUTES, set())
            for node in ast.walk(tree):
                if isinstance(node, ast.Attribute):
                    with self.subTest(path.name, row=node.lineno):
                        self.assertNotIn(node.attr, UNUSED)
                        self.assertTrue(node.attr in METHODS | methods | assigned, node.attr)

    def test_methods_and_attributes_of_a_class(self):
        for place, node in self.nodes(ast.ClassDef):
            methods = {inner.name for inner in node.body if isinstance(inner, ast.FunctionDef)}
            stored = {inner.attr for inner in ast.walk(node) if isinstance(inner, ast.Attribute) and isinstance(inner.ctx, ast.Store)
                      and ast.unparse(inner.value) == "self"}
            with self.subTest(place):
                self.assertEqual(methods & stored, set())

    def test_names_of_methods_are_those_of_no_attribute_elsewhere(self):
        _, methods, _, assigned = own_names()
        properties = {node.name for _, node in self.nodes(ast.FunctionDef) if node.decorator_list}
        self.assertLessEqual((methods - properties) & assigned, {"number"})
        classes = [node.name for _, node in self.nodes(ast.ClassDef)]
        self.assertEqual(len(classes), len(set(classes)))

    def test_names_of_properties_are_stored_only_if_all_have_setters(self):
        told, set_by = {}, {}
        for place, node in self.nodes(ast.ClassDef):
            for method in [inner for inner in node.body if isinstance(inner, ast.FunctionDef)]:
                decorators = [ast.unparse(decorator) for decorator in method.decorator_list]
                if "property" in decorators:
                    told.setdefault(method.name, set()).add(node.name)
                elif f"{method.name}.setter" in decorators:
                    set_by.setdefault(method.name, set()).add(node.name)
        for place, node in self.nodes(ast.Attribute):
            if not isinstance(node.ctx, ast.Load):
                with self.subTest(place, name=node.attr):
                    self.assertLessEqual(told.get(node.attr, set()), set_by.get(node.attr, set()))

    def test_what_objects_iterate_over(self):
        barred = own_names()[1]
        for _, node in self.nodes(ast.ClassDef):
            barred |= {target.id for inner in node.body if isinstance(inner, ast.Assign) for target in inner.targets}
        for place, node in self.nodes(ast.FunctionDef):
            if node.name == "__iter__":
                *told, last = node.body
                with self.subTest(place):
                    self.assertTrue(all([isinstance(inner.value, ast.Constant) for inner in told]))
                    self.assertRegex(ast.unparse(last), r"^return iter\(self(\.\w+){1,2}\)$|^raise TypeError\(")
                    if isinstance(last, ast.Return):
                        names = {inner.attr for inner in ast.walk(last) if isinstance(inner, ast.Attribute)}
                        self.assertEqual(names & barred, set())

    def test_properties_and_operators_reach_nothing_that_changes_objects(self):
        functions, roots = {}, []
        for _, node in self.nodes(ast.FunctionDef):
            functions.setdefault(node.name, []).append(node)
            if node.name not in ("__init__", "__iter__") and (node.name.startswith("__") or "property" in map(ast.unparse, node.decorator_list)):
                roots.append(node)
        reached, waiting = set(), list(roots)
        while waiting:
            function = waiting.pop()
            if function in reached:
                continue
            reached.add(function)
            called = [node.func for node in ast.walk(function) if isinstance(node, ast.Call)]
            for node in ast.walk(function):
                name = getattr(node, "attr", getattr(node, "id", None))
                if node in called or name in [root.name for root in roots]:
                    waiting.extend(functions.get(name, ()) if name != "__init__" else ())
                with self.subTest(function.name, name=name):
                    self.assertFalse(isinstance(node, ast.Attribute) and isinstance(node.ctx, ast.Store))

    def test_strings(self):
        for place, node in self.nodes(ast.Constant):
            if isinstance(node.value, str):
                with self.subTest(place):
                    self.assertNotIn("%", node.value)
        for path in FILES:
            words = set(re.findall(r"\w+", re.sub(r'"""(.|\n)*?"""|# .*', "", path.read_text())))
            with self.subTest(path.name):
                self.assertEqual(words & BARRED, set())

    def test_decorators_and_statements(self):
        for place, node in self.nodes(ast.FunctionDef):
            for decorator in node.decorator_list:
                self.assertIn(ast.unparse(decorator), ("property", "classmethod", "staticmethod"), place)
        barred = (ast.Global, ast.With, ast.AsyncFunctionDef, ast.Await, ast.Import, ast.Div, ast.SetComp)
        self.assertEqual([place for place, _ in self.nodes(*barred)], [])


if __name__ == "__main__":
    unittest.main()
